package store_test

import (
	"math"
	"slices"
	"strings"
	"testing"

	"wampum/api"
	"wampum/store"
)

func TestBytes(t *testing.T) { // P9.1: byte by byte
	seven := api.Intent{Txn: api.Meta{ID: 7, Epoch: 2, Anchor: "an", Start: at(1, 300)}, Seq: 3, At: at(5, 0), Value: "new"}
	gone7 := api.Intent{Txn: api.Meta{ID: 1 << 40, Anchor: "a"}, At: last, Gone: true}
	for _, c := range []struct {
		w    words
		want string
	}{
		{words{}, "\x00"},
		{words{"k": closed(ver(at(3, 0), "v", 9))}, "\x01\x01k\x01\x03\x00\x01v\x00\x09\x00"},
		{words{"k": closed(gone(at(0, 0), 0))}, "\x01\x01k\x01\x00\x00\x00\x01\x00\x00"},
		{words{"k": closed(ver(at(3, 0), "", 300))}, "\x01\x01k\x01\x03\x00\x00\x00\xac\x02\x00"},
		{words{"k": closed(ver(at(3, 0), "v", 9), gone(at(3, 65535), 8))}, "\x01\x01k\x02\x03\x00\x01v\x00\x09\x03\xff\xff\x03\x00\x01\x08\x00"},
		{words{"key": open(seven)}, "\x01\x03key\x00\x01\x07\x02\x02an\x01\xac\x02\x03\x05\x00\x03new\x00"},
		{words{"key": open(seven, ver(at(4, 0), "v", 9))}, "\x01\x03key\x01\x04\x00\x01v\x00\x09\x01\x07\x02\x02an\x01\xac\x02\x03\x05\x00\x03new\x00"},
		{words{"k": open(gone7)}, "\x01\x01k\x00\x01\x80\x80\x80\x80\x80\x20\x00\x01a\x00\x00\x00\x80\x80\x80\x80\x80\x20\xff\xff\x03\x00\x01"},
		{words{"b": closed(ver(at(3, 0), "v", 9)), "aa": closed(ver(at(3, 0), "v", 9)), "ab": open(seven)},
			"\x03\x02aa\x01\x03\x00\x01v\x00\x09\x00\x02ab\x00\x01\x07\x02\x02an\x01\xac\x02\x03\x05\x00\x03new\x00\x01b\x01\x03\x00\x01v\x00\x09\x00"},
	} {
		if got := bytesOf(c.w.entries()); string(got) != c.want {
			t.Fatalf("the words' bytes: % x, not % x", got, c.want)
		}
		s := parsed(t, c.w)
		if got := s.Bytes(); string(got) != c.want {
			t.Errorf("Bytes: % x, not % x", got, c.want)
		}
		if got := s.Copy().Bytes(); string(got) != c.want {
			t.Errorf("Bytes of a copy: % x, not % x", got, c.want)
		}
	}
}

func TestBytesOfWhatWasPut(t *testing.T) { // P9.1, P9.3: a store that came by Put and Resolve
	s := store.New()
	puts(t, s, "b", intent(7, 2, 3, at(5, 0), "new"), laid{at: at(5, 0)})
	puts(t, s, "a", goneIntent(7, 2, 4, at(6, 0)), laid{at: at(6, 0)})
	resolves(t, s, one("a"), 7, 2, true, at(7, 0), decided{n: 1})
	want := "\x02\x01a\x01\x07\x00\x00\x01\x07\x00\x01b\x00\x01\x07\x02\x06anchor\x01\x07\x03\x05\x00\x03new\x00"
	if got := s.Bytes(); string(got) != want {
		t.Errorf("% x, not % x", got, want)
	}
	p, e := store.Parse(s.Bytes())
	if e != api.OK {
		t.Fatalf("%v", e)
	}
	is(t, p, words{"a": closed(gone(at(7, 0), 7)), "b": open(intent(7, 2, 3, at(5, 0), "new"))})
}

// kinds are stores of each kind, for what becomes of their bytes.
func kinds() []words {
	many, _ := crowd(3)
	return []words{
		{}, several(), many,
		{"k": closed(ver(at(300, 300), "value", 300))},
		{"k": open(intent(300, 300, 300, at(300, 300), "value"))},
		{"a": open(goneIntent(1, 0, 0, at(0, 0))), "b": closed(gone(at(0, 0), 0))},
		{"abcdefgh": closed(ver(at(1<<40, 0), strings.Repeat("~", 16), 1<<40), gone(last, 1<<40))},
		{"k": open(api.Intent{Txn: api.Meta{ID: 1 << 40, Epoch: 1 << 40, Anchor: "abcdefgh", Start: last}, Seq: 1 << 40, At: last, Value: strings.Repeat("!", 16)})},
	}
}

// parses holds what Parse makes of bytes against the words; it tells whether they are a store's.
func parses(t *testing.T, b []byte) bool {
	t.Helper()
	was := slices.Clone(b)
	s, e := store.Parse(b)
	w, ok := wordsParse(b)
	if !slices.Equal(was, b) {
		t.Fatalf("Parse wrote into % x: % x", was, b)
	}
	if !ok {
		if e != api.ErrPack || s != nil {
			t.Fatalf("Parse(% x): %v, %v", b, s, e)
		}
		return false
	}
	if e != api.OK || s == nil {
		t.Fatalf("Parse(% x): %v, not %v", b, e, w)
	}
	is(t, s, w)
	if got := s.Bytes(); !slices.Equal(got, b) {
		t.Fatalf("P9.3: Parse(% x) has the bytes % x", b, got)
	}
	return true
}

func TestThereAndBack(t *testing.T) { // P9.3
	for _, w := range kinds() {
		if !parses(t, bytesOf(w.entries())) {
			t.Errorf("%v is no store's", w)
		}
	}
}

func TestParseOfOtherBytes(t *testing.T) { // P9.1: cut, longer, turned
	fine := 0
	for _, w := range kinds() {
		b := bytesOf(w.entries())
		for n := range b {
			if parses(t, b[:n]) {
				t.Errorf("% x, cut at %d, is a store's", b, n)
			}
		}
		for c := range 256 {
			if parses(t, append(slices.Clone(b), byte(c))) {
				t.Errorf("% x, with %x behind, is a store's", b, c)
			}
			for n := range b {
				turned := slices.Clone(b)
				turned[n] = byte(c)
				if parses(t, turned) {
					fine++
				}
				if parses(t, slices.Insert(slices.Clone(b), n, byte(c))) {
					fine++
				}
			}
		}
		for n := range b {
			if parses(t, slices.Delete(slices.Clone(b), n, n+1)) {
				fine++
			}
		}
	}
	if fine < 1000 { // a turned letter of a value is still one
		t.Errorf("%d", fine)
	}
	if parses(t, nil) || parses(t, []byte{}) {
		t.Error("no bytes are a store's")
	}
}

// parsesTo tells whether those keys' bytes are a store's.
func parsesTo(t *testing.T, want bool, l ...entry) {
	t.Helper()
	if got := parses(t, bytesOf(l)); got != want {
		t.Errorf("Parse of %v: %v", l, got)
	}
}

func TestParsesNumbers(t *testing.T) { // P9.1: numbers are at most MaxNumber, stamps right
	for _, set := range []struct {
		most int
		set  func(c *api.Chain, v int)
	}{
		{1 << 40, func(c *api.Chain, v int) { c.Versions[1].By = v }},
		{1 << 40, func(c *api.Chain, v int) { c.Intent.Txn.ID = v }},
		{1 << 40, func(c *api.Chain, v int) { c.Intent.Txn.Epoch = v }},
		{1 << 40, func(c *api.Chain, v int) { c.Intent.Seq = v }},
		{1 << 40, func(c *api.Chain, v int) { c.Intent.Txn.Start.Wall = v }},
		{1 << 40, func(c *api.Chain, v int) { c.Intent.At.Wall = v }},
		{65535, func(c *api.Chain, v int) { c.Intent.Txn.Start.Logical = v }},
		{65535, func(c *api.Chain, v int) { c.Intent.At.Logical = v }},
		{65535, func(c *api.Chain, v int) { c.Versions[1].At.Logical = v }},
	} {
		for _, v := range []int{10, set.most - 1, set.most, set.most + 1, 2 * set.most, math.MaxInt} {
			c := open(intent(7, 2, 3, at(9, 0), "new"), ver(at(1, 0), "one", 1), ver(at(2, 0), "two", 2))
			set.set(&c, v)
			parsesTo(t, v <= set.most, entry{"k", c})
		}
	}
	for _, v := range []int{1<<40 - 1, 1 << 40, 1<<40 + 1, math.MaxInt} {
		parsesTo(t, v <= 1<<40, entry{"k", closed(ver(at(1, 0), "one", 1), ver(at(v, 0), "two", 2))})
	}
}

func TestParsesKeys(t *testing.T) { // P9.1: keys are right, and rise
	c := closed(ver(at(1, 0), "v", 1))
	for _, k := range []string{"a", "z", "abcdefgh", "zzzzzzzz"} {
		parsesTo(t, true, entry{k, c})
	}
	for _, k := range []string{"", "A", "{", "`", "aB", "a{", "a b", "abcdefghi", "\x00", "\xff", "1"} {
		parsesTo(t, false, entry{k, c})
		parsesTo(t, false, entry{"a", c}, entry{k, c})
		parsesTo(t, false, entry{k, c}, entry{"z", c})
	}
	parsesTo(t, true, entry{"a", c}, entry{"aa", c}, entry{"b", c})
	parsesTo(t, false, entry{"a", c}, entry{"b", c}, entry{"aa", c})
	parsesTo(t, false, entry{"b", c}, entry{"a", c})
	parsesTo(t, false, entry{"b", c}, entry{"a", c}, entry{"c", c})
	parsesTo(t, false, entry{"a", c}, entry{"a", c})
	parsesTo(t, false, entry{"a", c}, entry{"b", c}, entry{"b", c})
	parsesTo(t, false, entry{"ab", c}, entry{"a", c})
}

func TestParsesChains(t *testing.T) { // P9.1: chains are right, and not empty
	five := intent(7, 0, 1, at(5, 0), "new")
	one, two := ver(at(1, 0), "one", 1), ver(at(2, 0), "two", 2)
	for _, c := range []struct {
		c    api.Chain
		want bool
	}{
		{api.Chain{}, false},
		{closed(one), true},
		{open(five), true},
		{open(five, one, two), true},
		{closed(one, two), true},
		{closed(two, one), false},
		{closed(one, one), false},
		{closed(one, two, two), false},
		{closed(one, ver(at(1, 0), "other", 3)), false},
		{closed(ver(at(1, 1), "v", 1), ver(at(1, 0), "v", 2)), false},
		{closed(ver(at(1, 0), "v", 1), ver(at(1, 1), "v", 1)), true},
		{open(five, ver(at(4, 65535), "v", 1)), true},
		{open(five, ver(at(5, 0), "v", 1)), false},
		{open(five, ver(at(6, 0), "v", 1)), false},
		{open(five, two, one), false},
		// What a chain's Write would not lay may be right all the same.
		{open(five, ver(at(1, 0), "v", 7)), true},
	} {
		parsesTo(t, c.want, entry{"k", c.c})
		parsesTo(t, c.want, entry{"a", open(five)}, entry{"k", c.c}, entry{"l", closed(one)})
	}
}

func TestParsesValuesAndAnchors(t *testing.T) { // P9.1: such as Put takes, and a key
	for _, c := range values() {
		v := api.Version{At: at(1, 0), Value: c.value, Gone: c.gone, By: 1}
		i := intent(7, 0, 1, at(5, 0), c.value)
		i.Gone = c.gone
		parsesTo(t, c.want == api.OK, entry{"k", closed(v)})
		parsesTo(t, c.want == api.OK, entry{"k", closed(v, ver(at(2, 0), "last", 1))})
		parsesTo(t, c.want == api.OK, entry{"k", open(i)})
	}
	for b := range 256 {
		v := string([]byte{byte(b)})
		parsesTo(t, b >= 33 && b <= 126, entry{"k", closed(ver(at(1, 0), v, 1))})
		parsesTo(t, b >= 33 && b <= 126, entry{"k", open(intent(7, 0, 1, at(1, 0), v))})
		i := intent(7, 0, 1, at(1, 0), "v")
		i.Txn.Anchor = v
		parsesTo(t, b >= 'a' && b <= 'z', entry{"k", open(i)})
	}
	for _, a := range []string{"", "A", "a{", "{", "abcdefghi", "a b", "a\x00"} {
		i := intent(7, 0, 1, at(1, 0), "v")
		i.Txn.Anchor = a
		parsesTo(t, false, entry{"k", open(i)})
	}
}

func TestParsesFlags(t *testing.T) { // P9.1: 0 or 1
	b := bytesOf([]entry{{"k", open(goneIntent(7, 0, 1, at(5, 0)), gone(at(1, 0), 1))}})
	versionGone, chainOpen, intentGone := 7, 9, len(b)-1
	for _, n := range []int{versionGone, chainOpen, intentGone} {
		if b[n] != 1 {
			t.Fatalf("% x has no flag at %d", b, n)
		}
		for c := range 256 {
			turned := slices.Clone(b)
			turned[n] = byte(c)
			// A chain that is not open ends there, with an intent's bytes left.
			want := c == 1 || c == 0 && n != chainOpen
			if got := parses(t, turned); got != want {
				t.Errorf("% x: %v", turned, got)
			}
		}
	}
}

func TestParsesCounts(t *testing.T) { // P9.1: how many keys, or versions, that the bytes do not have
	rest := bytesOf([]entry{{"k", closed(ver(at(1, 0), "v", 1))}})[1:]
	for _, n := range []int{0, 1, 2, 3, 127, 128, 65536, 1<<40 - 1, 1 << 40, 1<<40 + 1, math.MaxInt} {
		if got := parses(t, append(number(nil, n), rest...)); got != (n == 1) {
			t.Errorf("%d keys: %v", n, got)
		}
		if got := parses(t, number(nil, n)); got != (n == 0) {
			t.Errorf("%d keys, and no more: %v", n, got)
		}
		if got := parses(t, append(number([]byte{1, 1, 'k'}, n), rest[3:]...)); got != (n == 1) {
			t.Errorf("%d versions: %v", n, got)
		}
		if parses(t, number([]byte{1, 1, 'k'}, n)) {
			t.Errorf("%d versions, and no more", n)
		}
	}
	// Numbers that have more bytes than they need, or never end.
	for _, b := range [][]byte{{0x80, 0}, {0x81, 0}, {0x80}, {0xff, 0xff, 0xff, 0xff, 0xff, 0xff, 0xff, 0xff, 0xff, 1}, slices.Repeat([]byte{0xff}, 40)} {
		if parses(t, b) || parses(t, append(b, rest...)) {
			t.Errorf("% x is a number", b)
		}
	}
}

func TestParseOfMany(t *testing.T) { // P9.3: many keys, and many versions of one
	w := words{}
	var vs []api.Version
	for n := range 3000 {
		vs = append(vs, ver(at(n, n), "v", n))
		w[string([]byte{'a' + byte(n/676), 'a' + byte(n/26%26), 'a' + byte(n%26)})] = closed(ver(at(n, 0), "v", n))
	}
	w["m"] = closed(vs...)
	if !parses(t, bytesOf(w.entries())) {
		t.Error("many")
	}
}
