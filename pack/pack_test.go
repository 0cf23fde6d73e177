package pack_test

import (
	"bytes"
	"math"
	"strings"
	"testing"

	"wampum/api"
	"wampum/pack"
)

// numbers are those at which the count of bytes changes, with their neighbours, and some between.
func numbers() []int {
	out := []int{0, 1, 2, 5, 100, 300, 65535, 1 << 40, math.MaxInt - 1, math.MaxInt}
	for n := 7; n < 63; n += 7 {
		out = append(out, 1<<n-1, 1<<n, 1<<n+1)
	}
	return out
}

func texts() []string {
	all := make([]byte, 256)
	for i := range all {
		all[i] = byte(i)
	}
	return []string{"", "a", "hi", "\x00", "\x80\xff", string(all), strings.Repeat("x", 127), strings.Repeat("y", 128), strings.Repeat("z", 1<<16)}
}

func TestNumberBytes(t *testing.T) { // P1.1
	for _, c := range []struct {
		v    int
		want string
	}{
		{0, "\x00"},
		{1, "\x01"},
		{127, "\x7f"},
		{128, "\x80\x01"},
		{255, "\xff\x01"},
		{300, "\xac\x02"},
		{16383, "\xff\x7f"},
		{16384, "\x80\x80\x01"},
		{1 << 40, "\x80\x80\x80\x80\x80\x20"},
		{1 << 62, "\x80\x80\x80\x80\x80\x80\x80\x80\x40"},
		{math.MaxInt, "\xff\xff\xff\xff\xff\xff\xff\xff\x7f"},
		{-1, "\x00"},
		{-128, "\x00"},
		{math.MinInt, "\x00"},
	} {
		if b := pack.Number(nil, c.v); string(b) != c.want {
			t.Errorf("Number(nil, %d): %x, want %x", c.v, b, c.want)
		}
		if b := pack.Number([]byte("ab"), c.v); string(b) != "ab"+c.want {
			t.Errorf("Number(ab, %d): %x, want %x behind", c.v, b, c.want)
		}
	}
}

func TestFlagBytes(t *testing.T) { // P1.1
	if b := pack.Flag(nil, false); string(b) != "\x00" {
		t.Errorf("false: %x", b)
	}
	if b := pack.Flag([]byte("ab"), true); string(b) != "ab\x01" {
		t.Errorf("true: %x", b)
	}
}

func TestTextBytes(t *testing.T) { // P1.1
	for _, c := range []struct{ s, want string }{
		{"", "\x00"},
		{"a", "\x01a"},
		{"\x00\xff", "\x02\x00\xff"},
		{strings.Repeat("x", 127), "\x7f" + strings.Repeat("x", 127)},
		{strings.Repeat("x", 128), "\x80\x01" + strings.Repeat("x", 128)},
	} {
		if b := pack.Text(nil, c.s); string(b) != c.want {
			t.Errorf("Text(nil, %q): %x", c.s, b)
		}
		if b := pack.Text([]byte("ab"), c.s); string(b) != "ab"+c.want {
			t.Errorf("Text(ab, %q): %x", c.s, b)
		}
	}
}

// TestBehindStays: neither b, nor what lies behind it in its memory, is written into, and no answer shares memory with it.
func TestBehindStays(t *testing.T) { // P1.1
	for name, put := range map[string]func([]byte) []byte{
		"Number of one byte":   func(b []byte) []byte { return pack.Number(b, 1) },
		"Number of nine bytes": func(b []byte) []byte { return pack.Number(b, math.MaxInt) },
		"Number below 0":       func(b []byte) []byte { return pack.Number(b, -1) },
		"Flag":                 func(b []byte) []byte { return pack.Flag(b, true) },
		"Text":                 func(b []byte) []byte { return pack.Text(b, "hello") },
		"empty Text":           func(b []byte) []byte { return pack.Text(b, "") },
	} {
		for _, length := range []int{0, 2, 32} {
			memory := bytes.Repeat([]byte("#"), 32)
			b := memory[:length]
			x, y := put(b), put(b)
			want := string(y)
			for i := range x {
				x[i] = '?'
			}
			if string(memory) != strings.Repeat("#", 32) {
				t.Errorf("%s behind %d bytes: wrote %q", name, length, memory)
			}
			if string(y) != want {
				t.Errorf("%s behind %d bytes: two answers share memory", name, length)
			}
			for i := range memory {
				memory[i] = '!'
			}
			if string(y) != want {
				t.Errorf("%s behind %d bytes: the answer shares memory with b", name, length)
			}
		}
	}
}

func TestOpen(t *testing.T) { // P1.1
	b := []byte("\x05\x01\x02hi#")
	r := pack.Open(b[:5])
	for i := range b {
		b[i] = 0xff
	}
	if r.Left() != 5 {
		t.Errorf("Left: %d", r.Left())
	}
	if v, e := r.Number(9); v != 5 || e != api.OK || r.Left() != 4 {
		t.Errorf("Number: %d, %v, left %d", v, e, r.Left())
	}
	if v, e := r.Flag(); !v || e != api.OK || r.Left() != 3 || r.End() != api.ErrPack {
		t.Errorf("Flag: %v, %v, left %d, end %v", v, e, r.Left(), r.End())
	}
	if s, e := r.Text(9); s != "hi" || e != api.OK || r.Left() != 0 || r.End() != api.OK {
		t.Errorf("Text: %q, %v, left %d, end %v", s, e, r.Left(), r.End())
	}
}

// TestOpenKeepsToLength: what lies behind the length of what was handed in is not read.
func TestOpenKeepsToLength(t *testing.T) { // P1.1
	r := pack.Open([]byte("\x80\x01")[:1])
	if v, e := r.Number(math.MaxInt); v != 0 || e != api.ErrPack || r.Left() != 1 {
		t.Errorf("Number: %d, %v, left %d", v, e, r.Left())
	}
	r = pack.Open([]byte("\x02hi")[:2])
	if s, e := r.Text(2); s != "" || e != api.ErrPack || r.Left() != 2 {
		t.Errorf("Text: %q, %v, left %d", s, e, r.Left())
	}
}

func TestReadersAreApart(t *testing.T) { // P2
	b := []byte{1, 0}
	x, y := pack.Open(b), pack.Open(b)
	x.Flag()
	if x.Left() != 1 || y.Left() != 2 {
		t.Errorf("left: %d, %d", x.Left(), y.Left())
	}
	if v, e := y.Flag(); !v || e != api.OK {
		t.Errorf("Flag: %v, %v", v, e)
	}
}

func TestNothingLeft(t *testing.T) { // P1.1
	for _, b := range [][]byte{nil, {}} {
		r := pack.Open(b)
		if r == nil || r.Left() != 0 || r.End() != api.OK {
			t.Fatalf("Open: %v", r)
		}
		refuses(t, r)
	}
}

// refuses: nothing is read at r's place, however much it may be, and r stays there.
func refuses(t *testing.T, r *pack.Reader) {
	t.Helper()
	refusesNumber(t, r, math.MaxInt)
	refusesFlag(t, r)
	refusesText(t, r, math.MaxInt)
}

func refusesNumber(t *testing.T, r *pack.Reader, most int) {
	t.Helper()
	left := r.Left()
	if v, e := r.Number(most); v != 0 || e != api.ErrPack || r.Left() != left {
		t.Errorf("Number(%d) with %d left: %d, %v, %d left", most, left, v, e, r.Left())
	}
}

func refusesFlag(t *testing.T, r *pack.Reader) {
	t.Helper()
	left := r.Left()
	if v, e := r.Flag(); v || e != api.ErrPack || r.Left() != left {
		t.Errorf("Flag with %d left: %v, %v, %d left", left, v, e, r.Left())
	}
}

func refusesText(t *testing.T, r *pack.Reader, most int) {
	t.Helper()
	left := r.Left()
	if s, e := r.Text(most); s != "" || e != api.ErrPack || r.Left() != left {
		t.Errorf("Text(%d) with %d left: %q, %v, %d left", most, left, s, e, r.Left())
	}
}

// TestNoNumber: bytes that begin with no number are read as nothing at all, a text's count among it.
func TestNoNumber(t *testing.T) { // P1.1, P1.3
	for _, s := range []string{
		"\x80",
		"\xff\xff",
		"\x80\x00",
		"\x81\x00",
		"\xac\x82\x00",
		"\x80\x00rest",
		"\xff\xff\xff\xff\xff\xff\xff\xff",
		"\xff\xff\xff\xff\xff\xff\xff\xff\xff",
		"\xff\xff\xff\xff\xff\xff\xff\xff\x00",
		"\xff\xff\xff\xff\xff\xff\xff\xff\xff\x00",
		"\xff\xff\xff\xff\xff\xff\xff\xff\xff\x01",
		"\x80\x80\x80\x80\x80\x80\x80\x80\x80\x01",
		"\x80\x80\x80\x80\x80\x80\x80\x80\x80\x80\x01",
		strings.Repeat("\x80", 100) + "\x01",
	} {
		refuses(t, pack.Open([]byte(s)))
	}
}

func TestNoFlag(t *testing.T) { // P1.1
	for c := 2; c < 256; c++ {
		refusesFlag(t, pack.Open([]byte{byte(c), 0}))
	}
}

func TestMostOfNumber(t *testing.T) { // P1.1
	for _, v := range numbers() {
		r := pack.Open(append(pack.Number(nil, v), 7))
		refusesNumber(t, r, v-1)
		refusesNumber(t, r, -1)
		refusesNumber(t, r, math.MinInt)
		if got, e := r.Number(v); got != v || e != api.OK || r.Left() != 1 {
			t.Errorf("Number(%d): %d, %v, %d left", v, got, e, r.Left())
		}
	}
}

func TestMostOfText(t *testing.T) { // P1.1
	for _, s := range texts() {
		r := pack.Open(append(pack.Text(nil, s), 7))
		refusesText(t, r, len(s)-1)
		refusesText(t, r, -1)
		refusesText(t, r, math.MinInt)
		if got, e := r.Text(len(s)); got != s || e != api.OK || r.Left() != 1 {
			t.Errorf("Text(%d): %q, %v, %d left", len(s), got, e, r.Left())
		}
	}
}

func TestTextCutOff(t *testing.T) { // P1.1
	for _, n := range []int{1, 2, 128, 1 << 31, math.MaxInt - 1, math.MaxInt} {
		refusesText(t, pack.Open(pack.Number(nil, n)), math.MaxInt)
	}
	whole := pack.Text(nil, strings.Repeat("x", 200))
	for n := range whole {
		refusesText(t, pack.Open(whole[:n]), math.MaxInt)
	}
}

// TestRefusedThenRead: who was refused one thing reads another one at the same place.
func TestRefusedThenRead(t *testing.T) { // P1.1
	r := pack.Open([]byte("\x02hi"))
	refusesFlag(t, r)
	refusesNumber(t, r, 1)
	refusesText(t, r, 1)
	if s, e := r.Text(2); s != "hi" || e != api.OK {
		t.Errorf("Text: %q, %v", s, e)
	}
}

func TestNilReader(t *testing.T) { // P1, P1.1
	var r *pack.Reader
	if v, e := r.Number(9); v != 0 || e != api.ErrArg {
		t.Errorf("Number: %d, %v", v, e)
	}
	if v, e := r.Flag(); v || e != api.ErrArg {
		t.Errorf("Flag: %v, %v", v, e)
	}
	if s, e := r.Text(9); s != "" || e != api.ErrArg {
		t.Errorf("Text: %q, %v", s, e)
	}
	if n := r.Left(); n != 0 {
		t.Errorf("Left: %d", n)
	}
	if e := r.End(); e != api.ErrArg {
		t.Errorf("End: %v", e)
	}
}

func TestThereAndBack(t *testing.T) { // P1.2
	var b []byte
	for _, v := range numbers() {
		for _, s := range texts() {
			b = pack.Text(pack.Flag(pack.Number(nil, v), v%2 == 1), s)
			b = pack.Flag(pack.Number(b, len(s)), false)
			r := pack.Open(b)
			n, e1 := r.Number(math.MaxInt)
			f, e2 := r.Flag()
			got, e3 := r.Text(1 << 16)
			m, e4 := r.Number(1 << 16)
			g, e5 := r.Flag()
			if e1 != api.OK || e2 != api.OK || e3 != api.OK || e4 != api.OK || e5 != api.OK || r.End() != api.OK {
				t.Fatalf("%d and %d bytes: %v, %v, %v, %v, %v, %v", v, len(s), e1, e2, e3, e4, e5, r.End())
			}
			if n != v || f != (v%2 == 1) || got != s || m != len(s) || g {
				t.Errorf("%d and %d bytes: %d, %v, %q, %d, %v", v, len(s), n, f, got, m, g)
			}
		}
	}
}

func TestManyThereAndBack(t *testing.T) { // P1.2
	var b []byte
	for _, v := range numbers() {
		b = pack.Number(b, v)
	}
	r := pack.Open(b)
	for _, v := range numbers() {
		if got, e := r.Number(v); got != v || e != api.OK {
			t.Fatalf("%d: %d, %v", v, got, e)
		}
	}
	if r.End() != api.OK {
		t.Errorf("left: %d", r.Left())
	}
}

// oneWay: what is read of b has just the bytes that it was read from; what isn't read leaves the reader where it is.
func oneWay(t *testing.T, b []byte) {
	t.Helper()
	r := pack.Open(b)
	v, e := r.Number(math.MaxInt)
	taken(t, b, r, e, pack.Number(nil, v))
	r = pack.Open(b)
	f, e := r.Flag()
	taken(t, b, r, e, pack.Flag(nil, f))
	r = pack.Open(b)
	s, e := r.Text(math.MaxInt)
	taken(t, b, r, e, pack.Text(nil, s))
}

func taken(t *testing.T, b []byte, r *pack.Reader, e api.Errno, again []byte) {
	t.Helper()
	if e != api.OK && (e != api.ErrPack || r.Left() != len(b)) {
		t.Errorf("%x: %v, %d left", b, e, r.Left())
	}
	if read := b[:len(b)-r.Left()]; e == api.OK && !bytes.Equal(read, again) {
		t.Errorf("%x: read from %x, put behind as %x", b, read, again)
	}
}

func TestOneWay(t *testing.T) { // P1.3
	oneWay(t, nil)
	for x := range 256 {
		oneWay(t, []byte{byte(x)})
		for y := range 256 {
			oneWay(t, []byte{byte(x), byte(y)})
			oneWay(t, []byte{byte(x), 0x80, byte(y), 'a', 'b'})
			oneWay(t, append(bytes.Repeat([]byte{0xff}, 7), byte(x), byte(y)))
			oneWay(t, append(bytes.Repeat([]byte{0x80}, 8), byte(x), byte(y)))
		}
	}
}

func FuzzOneWay(f *testing.F) { // P1.3
	f.Add([]byte("\x80\x00"))
	f.Add([]byte("\x02hi"))
	f.Fuzz(oneWay)
}
