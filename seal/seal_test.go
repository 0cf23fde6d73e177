package seal_test

import (
	"bytes"
	"encoding/binary"
	"hash/crc32"
	"slices"
	"strings"
	"testing"

	"wampum/api"
	"wampum/seal"
)

// records are some that may be framed, the shortest and the longest among them.
func records() [][]byte {
	all := make([]byte, 256)
	for i := range all {
		all[i] = byte(i)
	}
	var out [][]byte
	for _, s := range []string{
		"a", "\x00", "\xff", "123456789", "more", "\x00\x00\x00\x00", string(all),
		"\x00\x00\x00\x01\xe8\xb7\xbe\x43a", // a frame itself
		strings.Repeat("x", api.MaxBytes-1),
		strings.Repeat("\x00", api.MaxBytes),
	} {
		out = append(out, []byte(s))
	}
	return out
}

func frame(t *testing.T, b []byte) []byte {
	t.Helper()
	f, e := seal.Frame(b)
	if e != api.OK {
		t.Fatalf("Frame of %d bytes: %v", len(b), e)
	}
	return f
}

// raw has a frame's three parts as they are given, whether they belong together or not.
func raw(length, sum uint32, b []byte) []byte {
	f := binary.BigEndian.AppendUint32(nil, length)
	f = binary.BigEndian.AppendUint32(f, sum)
	return append(f, b...)
}

// noFrames are bytes that begin with no frame.
func noFrames() map[string][]byte {
	a := crc32.ChecksumIEEE([]byte("a"))
	long := make([]byte, api.MaxBytes+1)
	return map[string][]byte{
		"nil":                    nil,
		"no byte":                {},
		"one byte":               {0},
		"a head that is cut":     raw(1, a, nil)[:7],
		"a head alone":           raw(1, a, nil),
		"a record of no byte":    raw(0, 0, nil),
		"no byte, and more":      raw(0, 0, []byte("a")),
		"a length too great":     raw(2, a, []byte("a")),
		"a length too small":     raw(1, crc32.ChecksumIEEE([]byte("ab")), []byte("ab")),
		"the greatest length":    raw(0xFFFFFFFF, a, []byte("a")),
		"a length of its top":    raw(0x80000000, a, []byte("a")),
		"a length above 16 bits": raw(1<<16+1, a, []byte("a")),
		"a wrong sum":            raw(1, a+1, []byte("a")),
		"no sum":                 raw(1, 0, []byte("a")),
		"the lowest byte first":  {1, 0, 0, 0, 0x43, 0xbe, 0xb7, 0xe8, 'a'},
		"too long a record":      raw(uint32(len(long)), crc32.ChecksumIEEE(long), long),
		"a text":                 []byte("some bytes that are no frame at all"),
	}
}

func TestSum(t *testing.T) { // P2.1
	for s, want := range map[string]uint32{
		"":                 0,
		"a":                0xE8B7BE43,
		"123456789":        0xCBF43926,
		"\x00":             0xD202EF8D,
		"\x00\x00\x00\x00": 0x2144DF1C,
		"\xff\xff\xff\xff": 0xFFFFFFFF,
		"The quick brown fox jumps over the lazy dog": 0x414FA339,
	} {
		if c := seal.Sum([]byte(s)); c != want {
			t.Errorf("Sum(%q): %08X, want %08X", s, c, want)
		}
	}
	if c := seal.Sum(nil); c != 0 {
		t.Errorf("Sum(nil): %08X", c)
	}
}

func TestSumOfEachByteAndOfMany(t *testing.T) { // P2.1
	for i := range 256 {
		b := []byte{byte(i)}
		if c, want := seal.Sum(b), crc32.ChecksumIEEE(b); c != want {
			t.Errorf("Sum(%x): %08X, want %08X", b, c, want)
		}
	}
	for _, b := range append(records(), make([]byte, 2*api.MaxBytes)) { // a sum is told of more than a frame holds
		if c, want := seal.Sum(b), crc32.ChecksumIEEE(b); c != want {
			t.Errorf("Sum of %d bytes: %08X, want %08X", len(b), c, want)
		}
	}
}

func TestFrameBytes(t *testing.T) { // P2.1
	if f := frame(t, []byte("a")); string(f) != "\x00\x00\x00\x01\xe8\xb7\xbe\x43a" {
		t.Errorf("Frame(a): %x", f)
	}
	if f := frame(t, make([]byte, 0x0102)); string(f[:4]) != "\x00\x00\x01\x02" {
		t.Errorf("Frame of 258 bytes begins with %x", f[:4])
	}
	for _, b := range records() {
		if f, want := frame(t, b), raw(uint32(len(b)), crc32.ChecksumIEEE(b), b); !bytes.Equal(f, want) {
			t.Errorf("Frame of %d bytes: another one", len(b))
		}
	}
}

func TestFrameRefuses(t *testing.T) { // P2.1
	for _, b := range [][]byte{nil, {}, make([]byte, api.MaxBytes+1), make([]byte, 3*api.MaxBytes)} {
		if f, e := seal.Frame(b); e != api.ErrSeal || len(f) != 0 {
			t.Errorf("Frame of %d bytes: %d bytes, %v", len(b), len(f), e)
		}
	}
}

func TestWhole(t *testing.T) { // P2.1
	for _, b := range records() {
		if r, e := seal.Whole(frame(t, b)); e != api.OK || !bytes.Equal(r, b) {
			t.Errorf("Whole of %d bytes: %d bytes, %v", len(b), len(r), e)
		}
	}
}

func TestWholeRefuses(t *testing.T) { // P2.1
	refused := noFrames()
	a := frame(t, []byte("a"))
	refused["two frames"] = slices.Concat(a, a)
	refused["a byte behind"] = append(slices.Clone(a), 0)
	refused["a byte ahead"] = append([]byte{0}, a...)
	refused["a cut frame"] = a[:len(a)-1]
	for name, b := range refused {
		if r, e := seal.Whole(b); e != api.ErrSeal || len(r) != 0 {
			t.Errorf("%s: %x, %v", name, r, e)
		}
	}
}

func TestScanThereAndBack(t *testing.T) { // P2.2
	var all []byte
	var want [][]byte
	for _, b := range records() {
		all = append(all, frame(t, b)...)
		want = append(want, b)
		l, n := seal.Scan(all)
		if n != len(all) || !slices.EqualFunc(l, want, bytes.Equal) {
			t.Errorf("%d frames of %d bytes: %d of %d", len(want), len(all), len(l), n)
		}
	}
}

func TestScanOfNoFrames(t *testing.T) { // P2.1
	for name, b := range noFrames() {
		if l, n := seal.Scan(b); len(l) != 0 || n != 0 {
			t.Errorf("%s: %q, %d", name, l, n)
		}
	}
}

func TestScanEndsAtTheFirstThatIsNone(t *testing.T) { // P2.1
	a, b := frame(t, []byte("a")), frame(t, []byte("more"))
	for name, none := range noFrames() {
		if len(none) == 0 {
			continue
		}
		// A frame behind what is none is not looked for.
		for _, rest := range [][]byte{none, append(slices.Clone(none), frame(t, []byte("late"))...)} {
			l, n := seal.Scan(slices.Concat(a, b, rest))
			if n != len(a)+len(b) || len(l) != 2 || string(l[0]) != "a" || string(l[1]) != "more" {
				t.Errorf("%s behind two frames: %q, %d", name, l, n)
			}
		}
	}
}

func TestScanOfEachCut(t *testing.T) { // P2.1
	a, b := frame(t, []byte("a")), frame(t, []byte("more"))
	both := slices.Concat(a, b)
	for cut := range len(both) + 1 {
		records, size := 0, 0
		if cut >= len(a) {
			records, size = 1, len(a)
		}
		if cut == len(both) {
			records, size = 2, len(both)
		}
		if l, n := seal.Scan(both[:cut]); len(l) != records || n != size {
			t.Errorf("the first %d bytes: %q, %d", cut, l, n)
		}
	}
}

// turn turns the bits of b from a place on as the pattern says, each byte's lowest bit first.
func turn(b []byte, from int, pattern uint32) []byte {
	out := slices.Clone(b)
	for i := range 32 {
		at := from + i
		if pattern>>i&1 == 1 && at < 8*len(b) {
			out[at/8] ^= 1 << (at % 8)
		}
	}
	return out
}

func TestTurnedIsNone(t *testing.T) { // P2.3
	ahead := frame(t, []byte("ahead"))
	for _, record := range []string{"a", "more", "12345678901234567890", strings.Repeat("\x00", 40)} {
		f := frame(t, []byte(record))
		head := f[:8]
		for from := range 8 * len(record) {
			pattern := uint32(0x9E3779B9)
			for range 60 {
				pattern = pattern*1664525 + 1013904223
				for _, p := range []uint32{1, 1<<31 | 1, 0xFFFFFFFF, pattern | 1} {
					turned := append(slices.Clone(head), turn([]byte(record), from, p)...)
					if r, e := seal.Whole(turned); e != api.ErrSeal || len(r) != 0 {
						t.Fatalf("%q turned from %d by %08X is whole: %q, %v", record, from, p, r, e)
					}
					if l, n := seal.Scan(slices.Concat(ahead, turned)); len(l) != 1 || n != len(ahead) {
						t.Fatalf("%q turned from %d by %08X is scanned: %q, %d", record, from, p, l, n)
					}
				}
			}
		}
	}
}

func TestTurnedInTheLongestIsNone(t *testing.T) { // P2.3
	record := make([]byte, api.MaxBytes)
	head := frame(t, record)[:8]
	for _, from := range []int{0, 8*api.MaxBytes/2 + 3, 8*api.MaxBytes - 32, 8*api.MaxBytes - 1} {
		if _, e := seal.Whole(append(slices.Clone(head), turn(record, from, 1<<31|1)...)); e != api.ErrSeal {
			t.Errorf("turned from %d: %v", from, e)
		}
	}
}

func TestTurnedHeadIsNone(t *testing.T) { // P2.1
	f := frame(t, []byte("more"))
	for bit := range 8 * 8 {
		turned := turn(f, bit, 1)
		if r, e := seal.Whole(turned); e != api.ErrSeal || len(r) != 0 {
			t.Errorf("the head's bit %d turned: %q, %v", bit, r, e)
		}
		if l, n := seal.Scan(turned); len(l) != 0 || n != 0 {
			t.Errorf("the head's bit %d turned: %q, %d", bit, l, n)
		}
	}
}

func TestArgumentsStay(t *testing.T) { // rule 4
	memory := []byte("abcdefgh")
	seal.Sum(memory[:2])
	f, _ := seal.Frame(memory[:2])
	if string(memory) != "abcdefgh" {
		t.Fatalf("Sum and Frame wrote into what they were given: %q", memory)
	}
	two := slices.Concat(f, f, []byte("behind"))
	kept := slices.Clone(two)
	seal.Scan(two[:2*len(f)])
	seal.Whole(two[:len(f)])
	if !bytes.Equal(two, kept) {
		t.Errorf("Scan and Whole wrote into what they were given: %q", two)
	}
	// What lies behind a list's length is not read.
	if l, n := seal.Scan(two[:2*len(f)-1]); len(l) != 1 || n != len(f) {
		t.Errorf("Scan read behind the end: %q, %d", l, n)
	}
	if _, e := seal.Whole(two[:len(f)-1]); e != api.ErrSeal {
		t.Errorf("Whole read behind the end: %v", e)
	}
}

func TestAnswersAreNewMemory(t *testing.T) { // rule 4
	record := []byte("ab")
	f := frame(t, record)
	two := slices.Concat(f, f)
	l, _ := seal.Scan(two)
	w, _ := seal.Whole(f)
	record[0] = 'x'
	if string(f[8:]) != "ab" {
		t.Errorf("Frame shares memory with the record: %q", f)
	}
	clear(f)
	clear(two)
	if string(w) != "ab" || string(l[0]) != "ab" || string(l[1]) != "ab" {
		t.Errorf("answers share memory with the bytes: %q, %q", w, l)
	}
	full := l[0][:cap(l[0])]
	for i := range full {
		full[i] = '-'
	}
	if string(l[1]) != "ab" {
		t.Errorf("records share memory: %q", l)
	}
	w[0] = 'y'
	if again, e := seal.Whole(frame(t, []byte("ab"))); string(again) != "ab" || e != api.OK {
		t.Errorf("a call hangs on another one: %q, %v", again, e)
	}
}

// FuzzScan: whatever the bytes, the records that are told are those of the frames that the bytes begin with, and no frame follows.
func FuzzScan(f *testing.F) {
	for _, b := range noFrames() {
		f.Add(b)
	}
	f.Add([]byte("\x00\x00\x00\x01\xe8\xb7\xbe\x43a\x00\x00\x00\x01\xe8\xb7\xbe\x43arest"))
	f.Fuzz(func(t *testing.T, b []byte) { // P1, P2.1, P2.2
		l, n := seal.Scan(b)
		var back []byte
		for _, r := range l {
			back = append(back, frame(t, r)...)
		}
		if n != len(back) || !bytes.HasPrefix(b, back) {
			t.Errorf("%x is scanned as %q, %d", b, l, n)
		}
		if again, m := seal.Scan(b[n:]); len(again) != 0 || m != 0 {
			t.Errorf("behind the frames of %x are more: %q, %d", b, again, m)
		}
		r, e := seal.Whole(b)
		if one := len(l) == 1 && n == len(b); one != (e == api.OK) || one && !bytes.Equal(r, l[0]) {
			t.Errorf("Whole(%x): %q, %v", b, r, e)
		}
	})
}
