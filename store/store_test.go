package store_test

import (
	"fmt"
	"math"
	"math/rand/v2"
	"slices"
	"strings"
	"testing"

	"wampum/api"
	"wampum/store"
)

func at(wall, logical int) api.Stamp {
	return api.Stamp{Wall: wall, Logical: logical}
}

// last is the greatest right stamp.
var last = at(1<<40, 65535)

// all is the span of all keys.
var all = api.Span{From: "a", To: "{"}

func from(f, to string) api.Span {
	return api.Span{From: f, To: to}
}

func one(key string) api.Span {
	return api.Span{From: key}
}

func ver(s api.Stamp, value string, by int) api.Version {
	return api.Version{At: s, Value: value, By: by}
}

func gone(s api.Stamp, by int) api.Version {
	return api.Version{At: s, Gone: true, By: by}
}

func intent(id, epoch, seq int, s api.Stamp, value string) api.Intent {
	return api.Intent{Txn: api.Meta{ID: id, Epoch: epoch, Anchor: "anchor", Start: at(1, id)}, Seq: seq, At: s, Value: value}
}

func goneIntent(id, epoch, seq int, s api.Stamp) api.Intent {
	i := intent(id, epoch, seq, s, "")
	i.Gone = true
	return i
}

func closed(vs ...api.Version) api.Chain {
	return api.Chain{Versions: vs}
}

func open(i api.Intent, vs ...api.Version) api.Chain {
	return api.Chain{Versions: vs, Open: true, Intent: i}
}

// wrongSpans are spans that are not right.
func wrongSpans() []api.Span {
	return []api.Span{
		{}, from("", "b"), from("", "{"), from("b", "a"), from("b", "b"), from("b", "aa"), from("A", "b"), from("A", ""), from("a", "B"),
		from("a", "bB"), from("a", "{{"), from("a", "{a"), from("{", ""), from("{", "{"), from("a", "|"), from("a", "z{"), from("a1", "b"),
		from("abcdefghi", ""), from("a", "bcdefghij"), from("\xff", ""), from("a", "\x00"), from("a\x00", "b"),
	}
}

// reads holds what Read answers against what it must.
func reads(t *testing.T, s *store.Store, x api.Span, when, limit api.Stamp, id, epoch int, want seen) {
	t.Helper()
	if got := read(s, x, when, limit, id, epoch); !got.equal(want) {
		t.Errorf("Read(%v, %v, %v, %d, %d): %v, not %v", x, when, limit, id, epoch, got, want)
	}
}

func puts(t *testing.T, s *store.Store, key string, i api.Intent, want laid) {
	t.Helper()
	if got := put(s, key, i); got != want {
		t.Errorf("Put(%q, %v): %v, not %v", key, i, got, want)
	}
}

func resolves(t *testing.T, s *store.Store, x api.Span, id, epoch int, commit bool, when api.Stamp, want decided) {
	t.Helper()
	if got := resolve(s, x, id, epoch, commit, when); got != want {
		t.Errorf("Resolve(%v, %d, %d, %v, %v): %v, not %v", x, id, epoch, commit, when, got, want)
	}
}

func refreshes(t *testing.T, s *store.Store, x api.Span, id int, begin, to api.Stamp, want refreshed) {
	t.Helper()
	if got := refresh(s, x, id, begin, to); got != want {
		t.Errorf("Refresh(%v, %d, %v, %v): %v, not %v", x, id, begin, to, got, want)
	}
}

func TestEmpty(t *testing.T) { // P9.1
	empty, e := store.Parse([]byte{0})
	if e != api.OK {
		t.Fatalf("Parse: %v", e)
	}
	for _, s := range []*store.Store{store.New(), empty, empty.Copy()} {
		is(t, s, words{})
		for _, x := range []api.Span{all, one("a"), from("b", "c")} {
			reads(t, s, x, at(9, 0), at(9, 0), 7, 0, seen{})
			resolves(t, s, x, 7, 0, true, at(9, 0), decided{})
			resolves(t, s, x, 7, 0, true, at(-1, 0), decided{})
			resolves(t, s, x, 7, 0, false, at(9, 0), decided{})
			refreshes(t, s, x, 7, at(1, 0), last, refreshed{})
		}
		if s.Query("a", 0, 0, 0, at(9, 0)) || s.Query("", 0, 0, 0, last) || !alike(s.Chain("a"), api.Chain{}) || !alike(s.Chain(""), api.Chain{}) {
			t.Error("a key that is not there")
		}
		is(t, s, words{})
	}
}

func TestReadWhichKeys(t *testing.T) { // P9.1: which keys a span has, told rising
	w := words{}
	for _, k := range []string{"b", "ba", "bb", "c", "d", "m", "zzzzzzzz"} {
		w[k] = closed(ver(at(2, 0), "v"+k, 1))
	}
	s := parsed(t, w)
	for _, c := range []struct {
		x    api.Span
		want string
	}{
		{all, "b ba bb c d m zzzzzzzz"},
		{one("b"), "b"},
		{one("a"), ""},
		{one("bc"), ""},
		{one("zzzzzzzz"), "zzzzzzzz"},
		{from("b", "c"), "b ba bb"},
		{from("b", "bb"), "b ba"},
		{from("ba", "d"), "ba bb c"},
		{from("bb", "zzzzzzzz"), "bb c d m"},
		{from("bb", "{"), "bb c d m zzzzzzzz"},
		{from("a", "b"), ""},
		{from("a", "ba"), "b"},
		{from("bc", "c"), ""},
		{from("e", "m"), ""},
		{from("e", "ma"), "m"},
		{from("n", "{"), "zzzzzzzz"},
	} {
		want := seen{}
		for _, k := range strings.Fields(c.want) {
			want.pairs = append(want.pairs, api.Pair{Key: k, Value: "v" + k})
		}
		reads(t, s, c.x, at(2, 0), at(2, 0), 9, 0, want)
		reads(t, s, c.x, at(1, 65535), at(1, 65535), 9, 0, seen{})
		if got := w.read(c.x, at(2, 0), at(2, 0), 9, 0); !got.equal(want) {
			t.Errorf("the words at %v: %v", c.x, got)
		}
		if unsure := read(s, c.x, at(1, 0), at(2, 0), 9, 0); c.want != "" && !unsure.equal(seen{at: at(2, 0), e: api.ErrUnsure}) {
			t.Errorf("Read(%v): %v", c.x, unsure)
		}
		n := len(strings.Fields(c.want))
		for k := range w {
			puts(t, s, k, intent(7, 0, 1, at(5, 0), "new"), laid{at: at(5, 0)})
		}
		resolves(t, s, c.x, 7, 0, false, at(9, 0), decided{n: n})
		resolves(t, s, all, 7, 0, false, at(9, 0), decided{n: len(w) - n})
		is(t, s, w)
	}
}

func TestWhatIsRead(t *testing.T) { // P9.1: at which stamp, and of whom
	w := words{
		"a": closed(ver(at(2, 0), "two", 1), ver(at(4, 0), "four", 2), gone(at(6, 0), 3)),
		"b": open(intent(7, 1, 3, at(9, 0), "new"), ver(at(3, 0), "three", 1)),
		"c": open(goneIntent(7, 1, 4, at(9, 0)), ver(at(3, 0), "gone?", 1)),
		"d": closed(ver(at(8, 0), "late", 4)),
		"e": open(intent(7, 1, 1, at(9, 0), "fresh")),
		"f": closed(ver(at(1, 0), "", 4)),
	}
	s := parsed(t, w)
	empty := api.Pair{Key: "f"}
	reads(t, s, all, at(2, 0), at(2, 0), 8, 0, seen{pairs: []api.Pair{{Key: "a", Value: "two"}, empty}})
	reads(t, s, all, at(5, 0), at(5, 0), 8, 0, seen{pairs: []api.Pair{{Key: "a", Value: "four"}, {Key: "b", Value: "three"}, {Key: "c", Value: "gone?"}, empty}})
	reads(t, s, all, at(8, 0), at(8, 0), 8, 0, seen{pairs: []api.Pair{{Key: "b", Value: "three"}, {Key: "c", Value: "gone?"}, {Key: "d", Value: "late"}, empty}})
	reads(t, s, all, at(9, 0), at(9, 0), 8, 0, seen{txn: w["b"].Intent.Txn, e: api.ErrIntent})
	reads(t, s, all, at(0, 0), at(8, 65535), 8, 0, seen{at: at(8, 0), e: api.ErrUnsure})
	reads(t, s, all, at(0, 0), at(0, 0), 8, 0, seen{})
	reads(t, s, all, at(5, 0), at(5, 0), 7, 1, seen{pairs: []api.Pair{{Key: "a", Value: "four"}, {Key: "b", Value: "new"}, {Key: "e", Value: "fresh"}, empty}})
	// Of another epoch its own intent is neither read nor in the way.
	reads(t, s, all, at(9, 0), at(9, 0), 7, 2, seen{pairs: []api.Pair{{Key: "b", Value: "three"}, {Key: "c", Value: "gone?"}, {Key: "d", Value: "late"}, empty}})
	is(t, s, w)
}

func TestWrongSpans(t *testing.T) { // P9.1: ErrKey, ahead of all
	w := words{"a": closed(ver(at(5, 0), "unsure", 1)), "b": open(intent(7, 0, 1, at(3, 0), "in-the-way"))}
	s := parsed(t, w)
	for _, x := range wrongSpans() {
		reads(t, s, x, at(4, 0), at(6, 0), 8, 0, seen{e: api.ErrKey})
		reads(t, s, x, at(4, 0), at(4, 0), 7, 0, seen{e: api.ErrKey})
		resolves(t, s, x, 7, 0, true, at(9, 0), decided{e: api.ErrKey})
		resolves(t, s, x, 7, 0, true, at(-1, 0), decided{e: api.ErrKey})
		resolves(t, s, x, 7, 0, false, at(9, 0), decided{e: api.ErrKey})
		refreshes(t, s, x, 8, at(0, 0), at(9, 0), refreshed{e: api.ErrKey})
		is(t, s, w)
	}
}

// crowd is a store of so many keys with a version at 2.0, and the keys; between each two of them, ahead and behind, are keys that have nothing up to 5.0.
func crowd(n int) (words, []string) {
	w, keys := words{}, []string{}
	for k := range n {
		key := string([]byte{'b' + byte(k/20), 'a' + byte(k%20)})
		keys = append(keys, key)
		w[key] = closed(ver(at(2, 0), "v"+key, 1))
		w[key+"b"] = closed(ver(at(2, 0), "old", 1), gone(at(3, 0), 2))
		w[key+"c"] = closed(ver(at(6, 0), "late", 1))
		w[key+"d"] = open(intent(9, 0, 1, at(6, 0), "late"))
	}
	w["a"] = closed(gone(at(1, 0), 1))
	return w, keys
}

func TestFiftyPairs(t *testing.T) { // P9.1: MaxPairs at most, and then no more are read
	for _, n := range []int{1, 49, 50, 51, 52, 60} {
		w, keys := crowd(n)
		s := parsed(t, w)
		want := seen{}
		for _, k := range keys[:min(n, 50)] {
			want.pairs = append(want.pairs, api.Pair{Key: k, Value: "v" + k})
		}
		reads(t, s, all, at(5, 0), at(5, 0), 8, 0, want)
		if n > 1 {
			want.pairs = want.pairs[1:]
			if n > 50 {
				want.pairs = append(want.pairs, api.Pair{Key: keys[50], Value: "v" + keys[50]})
			}
			reads(t, s, from(keys[0]+"a", "{"), at(5, 0), at(5, 0), 8, 0, want)
		}
	}
}

func TestBehindTheFiftiethPair(t *testing.T) { // P9.1: what is behind it isn't read; what is ahead of it is
	w, keys := crowd(52)
	held := parsed(t, w)
	want := read(held, all, at(5, 0), at(5, 0), 8, 0)
	if len(want.pairs) != 50 || want.pairs[49].Key != keys[49] {
		t.Fatalf("%v", want)
	}
	way := open(intent(7, 0, 1, at(4, 0), "in-the-way"))
	unsure := closed(ver(at(5, 1), "unsure", 3))
	for _, c := range []struct {
		key   string
		chain api.Chain
		want  seen
	}{
		{keys[49] + "a", way, want},
		{keys[50], way, want},
		{keys[51] + "e", way, want},
		{keys[49] + "a", unsure, want},
		{keys[50], unsure, want},
		{keys[51] + "e", unsure, want},
		{keys[48] + "e", way, seen{txn: way.Intent.Txn, e: api.ErrIntent}},
		{keys[49], way, seen{txn: way.Intent.Txn, e: api.ErrIntent}},
		{"aa", way, seen{txn: way.Intent.Txn, e: api.ErrIntent}},
		{keys[48] + "e", unsure, seen{at: at(5, 1), e: api.ErrUnsure}},
		{keys[49], unsure, seen{at: at(5, 1), e: api.ErrUnsure}},
		{"aa", unsure, seen{at: at(5, 1), e: api.ErrUnsure}},
	} {
		now := w.copy()
		now[c.key] = c.chain
		s := parsed(t, now)
		reads(t, s, all, at(5, 0), at(5, 1), 8, 0, c.want)
		if got := now.read(all, at(5, 0), at(5, 1), 8, 0); !got.equal(c.want) {
			t.Errorf("the words at %q: %v", c.key, got)
		}
	}
	// A key that is unsure is no pair: one more is read in its place, and the intent there is found.
	now := w.copy()
	now[keys[3]], now[keys[50]] = unsure, way
	reads(t, parsed(t, now), all, at(5, 0), at(5, 1), 8, 0, seen{txn: way.Intent.Txn, e: api.ErrIntent})
	now[keys[50]], now[keys[51]] = w[keys[50]], way
	reads(t, parsed(t, now), all, at(5, 0), at(5, 1), 8, 0, seen{at: at(5, 1), e: api.ErrUnsure})
}

func TestReadsFirstIntent(t *testing.T) { // P9.1: the first ErrIntent ends it, ahead of ErrUnsure
	keys := []string{"b", "c", "d", "e", "f"}
	base := words{}
	for _, k := range keys {
		base[k] = closed(ver(at(2, 0), "v"+k, 1))
	}
	for first := range keys {
		for second := first; second < len(keys); second++ {
			for unsure := range len(keys) + 1 {
				w := base.copy()
				if unsure < len(keys) {
					w[keys[unsure]] = closed(ver(at(2, 0), "old", 1), ver(at(6, 0), "unsure", 2))
				}
				a, b := intent(70+first, 1, 1, at(6, 0), "first"), intent(70+second, 1, 1, at(3, 0), "second")
				w[keys[second]] = open(b, ver(at(2, 0), "old", 1))
				w[keys[first]] = open(a, ver(at(2, 0), "old", 1))
				s := parsed(t, w)
				reads(t, s, all, at(4, 0), at(6, 0), 8, 0, seen{txn: a.Txn, e: api.ErrIntent})
				reads(t, s, from(keys[first], "{"), at(4, 0), at(6, 0), 8, 0, seen{txn: a.Txn, e: api.ErrIntent})
				if second > first {
					// The first one is not in its own way.
					reads(t, s, all, at(4, 0), at(6, 0), a.Txn.ID, 0, seen{txn: b.Txn, e: api.ErrIntent})
					reads(t, s, all, at(4, 0), at(6, 0), a.Txn.ID, 1, seen{txn: b.Txn, e: api.ErrIntent})
					// Above the limit it is not in the way either.
					reads(t, s, all, at(4, 0), at(5, 65535), 8, 0, seen{txn: b.Txn, e: api.ErrIntent})
				}
				is(t, s, w)
			}
		}
	}
}

func TestReadsUnsure(t *testing.T) { // P9.1: the greatest stamp of the keys that are unsure
	for _, c := range []struct {
		stamps []api.Stamp // of the keys' last versions; the limit is 9.5
		want   seen
	}{
		{[]api.Stamp{at(5, 1)}, seen{at: at(5, 1), e: api.ErrUnsure}},
		{[]api.Stamp{at(9, 5)}, seen{at: at(9, 5), e: api.ErrUnsure}},
		{[]api.Stamp{at(9, 6)}, seen{pairs: []api.Pair{{Key: "b", Value: "old"}}}},
		{[]api.Stamp{at(5, 0)}, seen{pairs: []api.Pair{{Key: "b", Value: "new"}}}},
		{[]api.Stamp{at(6, 0), at(5, 0), at(5, 0)}, seen{at: at(6, 0), e: api.ErrUnsure}},
		{[]api.Stamp{at(5, 0), at(5, 0), at(6, 0)}, seen{at: at(6, 0), e: api.ErrUnsure}},
		{[]api.Stamp{at(6, 0), at(8, 0), at(7, 0)}, seen{at: at(8, 0), e: api.ErrUnsure}},
		{[]api.Stamp{at(6, 3), at(6, 9), at(6, 4)}, seen{at: at(6, 9), e: api.ErrUnsure}},
		{[]api.Stamp{at(6, 3), at(9, 6), at(6, 4)}, seen{at: at(6, 4), e: api.ErrUnsure}},
		{[]api.Stamp{at(8, 0), at(7, 0), at(6, 0)}, seen{at: at(8, 0), e: api.ErrUnsure}},
		{[]api.Stamp{at(6, 0), at(7, 0), at(8, 0)}, seen{at: at(8, 0), e: api.ErrUnsure}},
		{[]api.Stamp{at(6, 9), at(7, 0), at(5, 0), at(6, 65535)}, seen{at: at(7, 0), e: api.ErrUnsure}},
	} {
		w := words{}
		for n, s := range c.stamps {
			w[string([]byte{'b' + byte(n)})] = closed(ver(at(4, 0), "old", 1), ver(s, "new", 2))
		}
		s := parsed(t, w)
		reads(t, s, all, at(5, 0), at(9, 5), 8, 0, c.want)
		is(t, s, w)
	}
	// Of one key's versions the greatest up to the limit counts; one that is gone makes unsure too.
	s := parsed(t, words{"b": closed(ver(at(6, 0), "a", 1), gone(at(7, 0), 2), ver(at(8, 0), "c", 3))})
	reads(t, s, all, at(5, 0), at(7, 65535), 0, 0, seen{at: at(7, 0), e: api.ErrUnsure})
	// Nor is it sure of no version at all, at 0.0.
	s = parsed(t, words{"b": closed(ver(at(0, 0), "a", 1))})
	reads(t, s, all, at(-1, 0), at(0, 0), 0, 0, seen{e: api.ErrUnsure})
}

func TestPut(t *testing.T) { // P9.1
	s, w := store.New(), words{}
	for n, k := range []string{"m", "a", "zzzzzzzz", "b", "ab"} {
		i := intent(7, 0, 1, at(5+n, n), "v"+k)
		puts(t, s, k, i, laid{at: i.At})
		w[k] = open(i)
		is(t, s, w)
	}
	// In the place of its own, and not below it.
	i := intent(7, 0, 2, at(1, 0), "more")
	puts(t, s, "a", i, laid{at: at(6, 1)})
	i.At = at(6, 1)
	w["a"] = open(i)
	is(t, s, w)
	// A Seq that is not greater leaves it.
	puts(t, s, "a", intent(7, 0, 2, at(8, 0), "less"), laid{at: at(6, 1)})
	is(t, s, w)
	// Above the last version.
	resolves(t, s, one("a"), 7, 0, true, at(9, 65535), decided{n: 1})
	i = intent(8, 0, 1, at(2, 0), "behind")
	puts(t, s, "a", i, laid{at: at(10, 0)})
	i.At = at(10, 0)
	w["a"] = open(i, ver(at(9, 65535), "more", 7))
	is(t, s, w)
	// What is not spoken of is taken as it is.
	i = api.Intent{Txn: api.Meta{ID: -1, Epoch: -1}, Seq: -1, Gone: true}
	puts(t, s, "x", i, laid{})
	if got := s.Chain("x"); !alike(got, open(i)) {
		t.Errorf("%v", got)
	}
}

func TestPutsKeys(t *testing.T) { // P9.1: ErrKey, ahead of ErrArg and of the chain's errors
	w := words{"a": open(intent(7, 0, 1, at(3, 0), "in-the-way"))}
	s := parsed(t, w)
	long := strings.Repeat("v", 17)
	for _, k := range []string{"", "A", "aB", "{", "a{", "`", "1", "a b", "abcdefghi", "\xff", "a\x00", "é", " a"} {
		puts(t, s, k, intent(8, 0, 1, at(3, 0), "v"), laid{e: api.ErrKey})
		puts(t, s, k, intent(8, 0, 1, at(3, 0), long), laid{e: api.ErrKey})
		puts(t, s, k, api.Intent{Gone: true, Value: "v"}, laid{e: api.ErrKey})
		puts(t, s, k, intent(8, 0, 1, at(-1, 0), "v"), laid{e: api.ErrKey})
		is(t, s, w)
	}
	// ErrArg is ahead of the chain's.
	puts(t, s, "a", intent(8, 0, 1, at(3, 0), long), laid{e: api.ErrArg})
	puts(t, s, "b", intent(8, 0, 1, at(-1, 0), long), laid{e: api.ErrArg})
	puts(t, s, "b", intent(8, 0, 1, at(-1, 0), "v"), laid{e: api.ErrStamp})
	is(t, s, w)
}

// values are what may be put, and what may not; whether it is gone.
func values() []struct {
	value string
	gone  bool
	want  api.Errno
} {
	return []struct {
		value string
		gone  bool
		want  api.Errno
	}{
		{"", false, api.OK},
		{"", true, api.OK},
		{"v", false, api.OK},
		{"v", true, api.ErrArg},
		{"!", true, api.ErrArg},
		{strings.Repeat("v", 15), false, api.OK},
		{strings.Repeat("v", 16), false, api.OK},
		{strings.Repeat("v", 17), false, api.ErrArg},
		{strings.Repeat("v", 16), true, api.ErrArg},
		{strings.Repeat("v", 17), true, api.ErrArg},
		{strings.Repeat("v", 200), false, api.ErrArg},
		{"!", false, api.OK},
		{"~", false, api.OK},
		{"!~AZaz09{}", false, api.OK},
		{" ", false, api.ErrArg},
		{"\x7f", false, api.ErrArg},
		{"\x00", false, api.ErrArg},
		{"\n", false, api.ErrArg},
		{"\x80", false, api.ErrArg},
		{"\xff", false, api.ErrArg},
		{"é", false, api.ErrArg},
		{" v", false, api.ErrArg},
		{"v ", false, api.ErrArg},
		{"v v", false, api.ErrArg},
		{"v\x7f", false, api.ErrArg},
		{strings.Repeat("v", 15) + " ", false, api.ErrArg},
		{strings.Repeat("~", 15) + "!", false, api.OK},
	}
}

func TestPutsValues(t *testing.T) { // P9.1: ErrArg
	for b := range 256 {
		want := laid{at: at(3, 0)}
		if b < 33 || b > 126 {
			want = laid{e: api.ErrArg}
		}
		puts(t, store.New(), "k", intent(7, 0, 1, at(3, 0), string([]byte{byte(b)})), want)
		puts(t, store.New(), "k", intent(7, 0, 1, at(3, 0), string([]byte{'v', byte(b), 'v'})), want)
	}
	for _, c := range values() {
		i := intent(7, 0, 1, at(3, 0), c.value)
		i.Gone = c.gone
		s, w := store.New(), words{}
		if c.want == api.OK {
			puts(t, s, "k", i, laid{at: at(3, 0)})
			w["k"] = open(i)
		} else {
			puts(t, s, "k", i, laid{e: c.want})
		}
		is(t, s, w)
	}
}

func TestPutsErrorsOfTheChain(t *testing.T) { // P9.1, rule 3: each error that a chain's Write has, and nothing has changed
	w := words{
		"a": open(intent(7, 2, 3, at(5, 0), "open"), ver(at(2, 0), "v", 1)),
		"b": closed(ver(at(2, 0), "v", 8)),
		"c": closed(ver(last, "v", 1)),
		"d": open(intent(8, 2, 3, at(5, 0), "open")),
	}
	s := parsed(t, w)
	for _, c := range []struct {
		key  string
		i    api.Intent
		want laid
	}{
		{"a", intent(8, 9, 9, at(9, 0), "new"), laid{txn: w["a"].Intent.Txn, e: api.ErrIntent}},
		{"a", intent(1, 9, 9, at(9, 0), "new"), laid{txn: w["a"].Intent.Txn, e: api.ErrIntent}},
		{"b", intent(8, 9, 9, at(9, 0), "new"), laid{e: api.ErrDone}},
		{"d", intent(8, 1, 9, at(9, 0), "new"), laid{e: api.ErrOld}},
		{"c", intent(8, 0, 1, at(9, 0), "new"), laid{e: api.ErrStamp}},
		{"b", intent(9, 0, 1, at(1<<40+1, 0), "new"), laid{e: api.ErrStamp}},
		{"e", intent(9, 0, 1, at(-1, 0), "new"), laid{e: api.ErrStamp}},
		{"e", intent(9, 0, 1, at(3, 65536), "new"), laid{e: api.ErrStamp}},
		{"e", intent(9, 0, 1, at(3, -1), "new"), laid{e: api.ErrStamp}},
		{"d", intent(8, 2, 4, at(3, -1), "new"), laid{at: at(5, 0)}},
	} {
		puts(t, s, c.key, c.i, c.want)
		if c.want.e == api.OK {
			i := c.i
			i.At = c.want.at
			w[c.key] = open(i)
		}
		is(t, s, w)
	}
	if got := s.Chain("e"); !alike(got, api.Chain{}) {
		t.Errorf("%v", got)
	}
}

func TestResolve(t *testing.T) { // P9.1: how many intents were decided, and what is there then
	base := words{
		"a": open(intent(7, 1, 1, at(5, 0), "a")),
		"b": open(intent(7, 2, 1, at(5, 0), "b")),
		"c": open(intent(8, 1, 1, at(5, 0), "c")),
		"d": closed(ver(at(3, 0), "d", 7)),
		"e": open(intent(7, 1, 1, at(6, 0), "e"), ver(at(4, 0), "old", 3)),
		"f": open(goneIntent(7, 1, 1, at(6, 0)), ver(at(4, 0), "old", 3)),
	}
	for _, c := range []struct {
		x         api.Span
		id, epoch int
		commit    bool
		at        api.Stamp
		want      decided
		become    words // of those that change; an empty chain: gone
	}{
		{all, 7, 1, true, at(9, 0), decided{n: 4}, words{
			"a": closed(ver(at(9, 0), "a", 7)), "b": {}, "e": closed(ver(at(4, 0), "old", 3), ver(at(9, 0), "e", 7)), "f": closed(ver(at(4, 0), "old", 3), gone(at(9, 0), 7)),
		}},
		{all, 7, 2, true, at(9, 0), decided{n: 4}, words{
			"a": {}, "b": closed(ver(at(9, 0), "b", 7)), "e": closed(ver(at(4, 0), "old", 3)), "f": closed(ver(at(4, 0), "old", 3)),
		}},
		{all, 7, 3, true, at(-1, 0), decided{n: 4}, words{"a": {}, "b": {}, "e": closed(ver(at(4, 0), "old", 3)), "f": closed(ver(at(4, 0), "old", 3))}},
		{all, 7, 0, false, at(9, 0), decided{}, words{}},
		{all, 7, 1, false, at(9, 0), decided{n: 3}, words{"a": {}, "e": closed(ver(at(4, 0), "old", 3)), "f": closed(ver(at(4, 0), "old", 3))}},
		{all, 7, 2, false, at(-1, 0), decided{n: 4}, words{"a": {}, "b": {}, "e": closed(ver(at(4, 0), "old", 3)), "f": closed(ver(at(4, 0), "old", 3))}},
		{all, 8, 1, true, at(0, 0), decided{n: 1}, words{"c": closed(ver(at(0, 0), "c", 8))}},
		{all, 8, 1, false, at(9, 0), decided{n: 1}, words{"c": {}}},
		{all, 9, 1, true, at(9, 0), decided{}, words{}},
		{all, 9, 1, true, at(-1, 0), decided{}, words{}},
		{all, 9, 1, false, at(9, 0), decided{}, words{}},
		{one("a"), 7, 1, true, at(1, 0), decided{n: 1}, words{"a": closed(ver(at(1, 0), "a", 7))}},
		{one("a"), 7, 1, false, at(9, 0), decided{n: 1}, words{"a": {}}},
		{one("c"), 7, 1, true, at(9, 0), decided{}, words{}},
		{one("d"), 7, 1, true, at(1, 0), decided{}, words{}},
		{one("g"), 7, 1, true, at(9, 0), decided{}, words{}},
		{from("a", "b"), 7, 1, true, at(9, 0), decided{n: 1}, words{"a": closed(ver(at(9, 0), "a", 7))}},
		{from("b", "e"), 7, 2, true, at(9, 0), decided{n: 1}, words{"b": closed(ver(at(9, 0), "b", 7))}},
		{from("e", "f"), 7, 1, true, at(4, 1), decided{n: 1}, words{"e": closed(ver(at(4, 0), "old", 3), ver(at(4, 1), "e", 7))}},
		{from("c", "e"), 7, 1, false, at(9, 0), decided{}, words{}},
		{from("g", "{"), 7, 1, true, at(9, 0), decided{}, words{}},
	} {
		s, w := parsed(t, base), base.copy()
		resolves(t, s, c.x, c.id, c.epoch, c.commit, c.at, c.want)
		for k, d := range c.become {
			w[k] = d
			if !d.Open && len(d.Versions) == 0 {
				delete(w, k)
				if got := s.Chain(k); !alike(got, api.Chain{}) {
					t.Errorf("Chain(%q): %v", k, got)
				}
			}
		}
		is(t, s, w)
		// Once more: there is nothing left of that transaction's to decide, but what stays.
		resolves(t, s, c.x, c.id, c.epoch, c.commit, c.at, decided{})
		is(t, s, w)
	}
}

func TestResolvesErrOld(t *testing.T) { // P9.1: with an error at a key none is decided, and nothing has changed
	keys := []string{"b", "c", "d", "e", "f"}
	for old := range keys {
		w := words{"a": open(intent(8, 1, 1, at(2, 0), "other")), "g": open(intent(7, 1, 1, at(2, 0), "behind"), ver(at(1, 0), "v", 1))}
		for n, k := range keys {
			w[k] = open(intent(7, 1, 1, at(20, 0), "v"+k))
			if n%2 == 1 {
				w[k] = open(intent(7, 1, 1, at(20, 0), "v"+k), ver(at(3, 0), "old", 1))
			}
			if n == old {
				w[k] = open(intent(7, 1, 1, at(20, 0), "v"+k), ver(at(3, 0), "old", 1), ver(at(9, 0), "old", 2))
			}
		}
		s := parsed(t, w)
		for _, when := range []api.Stamp{at(9, 0), at(8, 65535), at(4, 0), at(-1, 0), at(10, -1), at(10, 65536), at(1<<40+1, 0)} {
			resolves(t, s, all, 7, 1, true, when, decided{e: api.ErrOld})
			resolves(t, s, from("b", "g"), 7, 1, true, when, decided{e: api.ErrOld})
			resolves(t, s, one(keys[old]), 7, 1, true, when, decided{e: api.ErrOld})
			is(t, s, w)
		}
		// Of another epoch none is committed, so there is no error.
		resolves(t, s.Copy(), all, 7, 0, true, at(4, 0), decided{n: 6})
		resolves(t, s.Copy(), all, 7, 1, false, at(4, 0), decided{n: 6})
		// Ahead of that key, and behind it, they can be decided.
		ahead, behind := old, len(keys)-1-old
		if ahead > 0 {
			resolves(t, s, from("b", keys[old]), 7, 1, true, at(9, 0), decided{n: ahead})
		}
		if behind > 0 {
			resolves(t, s, from(keys[old+1], "g"), 7, 1, true, at(9, 0), decided{n: behind})
		}
		resolves(t, s, all, 7, 1, true, at(9, 1), decided{n: 2})
	}
}

func TestOnlyIntentDropped(t *testing.T) { // P9.1: a key that has neither a version nor an intent is gone
	s := store.New()
	for _, k := range []string{"a", "b", "c"} {
		puts(t, s, k, intent(7, 0, 1, at(5, 0), "new"), laid{at: at(5, 0)})
	}
	resolves(t, s, one("c"), 7, 0, true, at(6, 0), decided{n: 1})
	i := intent(9, 0, 1, at(8, 0), "next")
	puts(t, s, "c", i, laid{at: at(8, 0)})
	resolves(t, s, one("b"), 7, 0, false, at(6, 0), decided{n: 1})
	is(t, s, words{"a": open(intent(7, 0, 1, at(5, 0), "new")), "c": open(i, ver(at(6, 0), "new", 7))})
	resolves(t, s, all, 9, 0, false, at(6, 0), decided{n: 1})
	is(t, s, words{"a": open(intent(7, 0, 1, at(5, 0), "new")), "c": closed(ver(at(6, 0), "new", 7))})
	resolves(t, s, all, 7, 1, true, at(6, 0), decided{n: 1})
	is(t, s, words{"c": closed(ver(at(6, 0), "new", 7))})
	// What is gone may come again, with nothing of what it had.
	puts(t, s, "b", intent(8, 0, 1, at(1, 0), "again"), laid{at: at(1, 0)})
	is(t, s, words{"b": open(intent(8, 0, 1, at(1, 0), "again")), "c": closed(ver(at(6, 0), "new", 7))})
}

func TestRefresh(t *testing.T) { // P9.1: the first ErrIntent; if there is none ErrRetry
	w := words{
		"b": closed(ver(at(2, 0), "v", 1), ver(at(6, 0), "v", 2)),
		"c": open(intent(7, 1, 1, at(8, 0), "v"), ver(at(4, 0), "v", 1)),
		"d": closed(ver(at(5, 0), "v", 1), gone(at(7, 0), 2)),
		"e": open(intent(9, 1, 1, at(3, 0), "v"), ver(at(1, 0), "v", 1)),
		"f": closed(ver(at(6, 0), "v", 1)),
	}
	s := parsed(t, w)
	seven, nine := refreshed{w["c"].Intent.Txn, api.ErrIntent}, refreshed{w["e"].Intent.Txn, api.ErrIntent}
	retry, fine := refreshed{e: api.ErrRetry}, refreshed{}
	for _, c := range []struct {
		x         api.Span
		id        int
		begin, to api.Stamp
		want      refreshed
	}{
		{all, 0, at(2, 0), at(8, 0), seven}, // a retry at b, ahead of it
		{all, 0, at(2, 0), at(7, 65535), nine},
		{all, 0, at(2, 0), at(3, 0), nine},
		{all, 0, at(2, 0), at(2, 65535), fine},
		{all, 7, at(2, 0), at(8, 0), nine},
		{all, 9, at(2, 0), at(8, 0), seven},
		{all, 9, at(2, 0), at(7, 0), retry},
		{all, 9, at(7, 0), at(7, 65535), fine},
		{all, 9, at(6, 65535), at(7, 0), retry},
		{all, 9, at(7, 0), at(2, 0), fine},
		{from("c", "d"), 7, at(4, 0), at(9, 0), fine},
		{from("c", "d"), 7, at(3, 0), at(9, 0), retry},
		{from("c", "d"), 0, at(4, 0), at(9, 0), seven},
		{from("c", "e"), 0, at(4, 0), at(9, 0), seven}, // a retry at d, behind it
		{from("d", "f"), 0, at(4, 0), at(9, 0), nine},
		{from("d", "f"), 9, at(4, 0), at(9, 0), retry},
		{from("d", "f"), 9, at(7, 0), at(9, 0), fine},
		{from("f", "{"), 0, at(5, 0), at(6, 0), retry},
		{from("f", "{"), 0, at(5, 0), at(5, 65535), fine},
		{from("f", "{"), 0, at(6, 0), last, fine},
		{one("b"), 0, at(5, 65535), at(6, 0), retry},
		{one("b"), 0, at(6, 0), at(9, 0), fine},
		{one("bb"), 0, at(0, 0), last, fine},
		{one("c"), 0, at(0, 0), at(8, 0), seven},
		{one("c"), 0, at(4, 0), at(7, 65535), fine},
		{one("c"), 0, at(0, 0), at(7, 65535), retry},
	} {
		refreshes(t, s, c.x, c.id, c.begin, c.to, c.want)
		if got := w.refresh(c.x, c.id, c.begin, c.to); got != c.want {
			t.Errorf("the words at %v: %v, not %v", c, got, c.want)
		}
	}
	is(t, s, w)
}

func TestRefreshesFirstIntent(t *testing.T) { // P9.1: the first of several, whatever asks for a retry
	keys := []string{"b", "c", "d", "e"}
	for first := range keys {
		for second := first + 1; second < len(keys); second++ {
			for retry := range keys {
				w := words{}
				for n, k := range keys {
					w[k] = closed(ver(at(2, 0), "v", 1))
					if n == retry {
						w[k] = closed(ver(at(5, 0), "v", 1))
					}
				}
				a, b := intent(70+first, 1, 1, at(9, 0), "first"), intent(70+second, 1, 1, at(8, 0), "second")
				w[keys[first]], w[keys[second]] = open(a, w[keys[first]].Versions...), open(b, w[keys[second]].Versions...)
				s := parsed(t, w)
				refreshes(t, s, all, 0, at(3, 0), at(9, 0), refreshed{a.Txn, api.ErrIntent})
				refreshes(t, s, all, a.Txn.ID, at(3, 0), at(9, 0), refreshed{b.Txn, api.ErrIntent})
				refreshes(t, s, all, 0, at(3, 0), at(8, 0), refreshed{b.Txn, api.ErrIntent})
				refreshes(t, s, all, 0, at(3, 0), at(7, 0), refreshed{e: api.ErrRetry})
				is(t, s, w)
			}
		}
	}
}

func TestQueryAndChain(t *testing.T) { // P9.1
	w := words{
		"b": open(intent(7, 2, 3, at(5, 1), "v"), ver(at(2, 0), "old", 1)),
		"c": closed(ver(at(2, 0), "old", 7)),
		"d": open(api.Intent{Txn: api.Meta{Anchor: "a"}}),
	}
	s := parsed(t, w)
	for _, c := range []struct {
		key            string
		id, epoch, seq int
		at             api.Stamp
		want           bool
	}{
		{"b", 7, 2, 3, at(5, 1), true},
		{"b", 7, 2, 2, at(9, 0), true},
		{"b", 7, 2, 4, at(5, 1), false},
		{"b", 7, 2, 3, at(5, 0), false},
		{"b", 7, 1, 3, at(5, 1), false},
		{"b", 7, 3, 3, at(5, 1), false},
		{"b", 8, 2, 3, at(5, 1), false},
		{"c", 7, 2, 3, at(5, 1), false},
		{"c", 0, 0, 0, at(5, 1), false},
		{"d", 0, 0, 0, at(0, 0), true},
		{"d", 0, 0, -1, at(0, 0), true},
		{"d", 0, 0, 0, at(-1, 0), false},
		{"bb", 7, 2, 3, at(5, 1), false},
		{"a", 0, 0, 0, at(5, 1), false},
		{"", 0, 0, 0, at(5, 1), false},
		{"B", 7, 2, 3, at(5, 1), false},
	} {
		if got := s.Query(c.key, c.id, c.epoch, c.seq, c.at); got != c.want {
			t.Errorf("Query(%v): %v", c, got)
		}
	}
	for _, k := range []string{"b", "c", "d", "bb", "a", "", "B", "{", "zzzzzzzzz"} {
		if got := s.Chain(k); !alike(got, w[k]) {
			t.Errorf("Chain(%q): %v", k, got)
		}
	}
	is(t, s, w)
}

func TestKeysRise(t *testing.T) { // P9.1: whatever the order in which they were put
	var orders func(ahead, left []string, each func([]string))
	orders = func(ahead, left []string, each func([]string)) {
		if len(left) == 0 {
			each(ahead)
		}
		for n, k := range left {
			orders(append(slices.Clone(ahead), k), slices.Delete(slices.Clone(left), n, n+1), each)
		}
	}
	keys := []string{"a", "aa", "ab", "b", "z"}
	want := words{}
	for _, k := range keys {
		want[k] = open(intent(7, 0, 1, at(5, 0), "v"+k))
	}
	n := 0
	orders(nil, keys, func(order []string) {
		s := store.New()
		for _, k := range order {
			puts(t, s, k, want[k].Intent, laid{at: at(5, 0)})
		}
		is(t, s, want)
		n++
	})
	if n != 120 {
		t.Errorf("%d orders", n)
	}
}

func TestNil(t *testing.T) { // rule 8
	var s *store.Store
	for _, x := range append(wrongSpans(), all, one("a")) {
		reads(t, s, x, at(1, 0), at(1, 0), 0, 0, seen{e: api.ErrArg})
		resolves(t, s, x, 0, 0, true, at(1, 0), decided{e: api.ErrArg})
		resolves(t, s, x, 0, 0, false, at(1, 0), decided{e: api.ErrArg})
		refreshes(t, s, x, 0, at(1, 0), at(2, 0), refreshed{e: api.ErrArg})
		puts(t, s, x.From, intent(7, 0, 1, at(1, 0), x.To), laid{e: api.ErrArg})
		if s.Query(x.From, 0, 0, 0, at(1, 0)) || !alike(s.Chain(x.From), api.Chain{}) {
			t.Error("Query, Chain")
		}
	}
	if len(s.Keys()) != 0 || len(s.Bytes()) != 0 || s.Copy() != nil {
		t.Error("Keys, Bytes, Copy")
	}
}

// act is one of those that change a store; it tells what it answered.
type act func(*store.Store) any

// acts change all that a store of keys b to f may have.
func acts() []act {
	return []act{
		func(s *store.Store) any { return put(s, "b", intent(7, 9, 9, at(30, 0), "over")) },
		func(s *store.Store) any { return put(s, "x", intent(7, 9, 9, at(30, 0), "more")) },
		func(s *store.Store) any { return put(s, "c", intent(66, 9, 9, at(30, 0), "more")) },
		func(s *store.Store) any { return resolve(s, all, 7, 2, true, at(40, 0)) },
		func(s *store.Store) any { return resolve(s, all, 7, 9, false, at(40, 0)) },
		func(s *store.Store) any { return resolve(s, one("d"), 8, 0, false, at(40, 0)) },
		func(s *store.Store) any {
			put(s, "c", intent(66, 9, 9, at(30, 0), "more"))
			return resolve(s, all, 66, 9, true, at(50, 0))
		},
	}
}

// several is a store with all that acts may change.
func several() words {
	return words{
		"b": open(intent(7, 2, 3, at(20, 0), "open"), ver(at(2, 0), "old", 1), ver(at(3, 0), "older", 2)),
		"c": closed(ver(at(2, 0), "old", 1), gone(at(3, 0), 2), ver(at(4, 0), "again", 3)),
		"d": open(intent(8, 0, 1, at(5, 0), "only")),
		"e": open(goneIntent(7, 2, 4, at(20, 0))),
		"f": closed(ver(at(1, 0), "", 1)),
	}
}

func TestCopiesGoApart(t *testing.T) { // P9.1, rule 4: a copy is a store of its own, of this one's copies too
	for n, a := range acts() {
		for m, b := range acts() {
			s := parsed(t, several())
			c := s.Copy()
			d := c.Copy()
			is(t, c, several())
			a(s)
			is(t, c, several())
			is(t, d, several())
			b(c)
			is(t, d, several())
			want := parsed(t, several())
			a(want)
			if !slices.Equal(s.Bytes(), want.Bytes()) {
				t.Fatalf("act %d, and act %d of its copy: %v", n, m, s.Keys())
			}
		}
	}
}

// scrawl is what is written over, and behind, a list.
var scrawl = ver(at(77, 77), "scrawl", 77)

// over writes over all that a list's memory has.
func over[T any](l []T, with T) {
	l = l[:cap(l)]
	for n := range l {
		l[n] = with
	}
}

func TestNoMemoryIsShared(t *testing.T) { // rule 4: of what is handed out, and in
	s := parsed(t, several())
	for _, c := range append([]act{func(*store.Store) any { return nil }}, acts()...) {
		c(s)
		w, ok := wordsParse(s.Bytes())
		if !ok {
			t.Fatalf("% x", s.Bytes())
		}
		for _, k := range append(w.keys(), "y") {
			a, b := s.Chain(k), s.Chain(k)
			over(a.Versions, scrawl)
			if !alike(b, w[k]) {
				t.Fatalf("two chains of %q share memory", k)
			}
			is(t, s, w)
		}
		over(s.Keys(), "scrawl")
		over(s.Bytes(), 99)
		a, b := read(s, all, at(30, 0), at(30, 0), 7, 2), read(s, all, at(30, 0), at(30, 0), 7, 2)
		over(a.pairs, api.Pair{Key: "scrawl"})
		if want := w.read(all, at(30, 0), at(30, 0), 7, 2); !b.equal(want) {
			t.Fatalf("Read: %v, not %v", b, want)
		}
		is(t, s, w)
	}
	b := bytesOf(several().entries())
	long := append(slices.Clone(b), make([]byte, 20)...)
	over(long[len(b):], 0xee)
	s, e := store.Parse(long[:len(b)])
	if e != api.OK || !slices.Equal(long[:len(b)], b) || slices.ContainsFunc(long[len(b):], func(c byte) bool { return c != 0xee }) {
		t.Fatalf("Parse: %v, of % x", e, long)
	}
	over(long, 'x')
	is(t, s, several())
}

func TestAskingChangesNothing(t *testing.T) { // P2, rule 3
	s, w := parsed(t, several()), several()
	asks := []func() any{
		func() any { return read(s, all, at(30, 0), at(30, 0), 7, 2) },
		func() any { return read(s, all, at(3, 0), at(4, 0), 7, 2) },
		func() any { return refresh(s, all, 8, at(1, 0), at(30, 0)) },
		func() any { return s.Query("b", 7, 2, 3, at(30, 0)) },
		func() any { return s.Keys() },
		func() any { return s.Chain("c") },
		func() any { return s.Chain("x") },
		func() any { return s.Bytes() },
		func() any { return s.Copy().Bytes() },
	}
	for n, a := range asks {
		x := fmt.Sprint(a())
		is(t, s, w)
		if y := fmt.Sprint(a()); x != y {
			t.Errorf("ask %d: %s, and %s", n, x, y)
		}
	}
}

// script is a long one of calls at a store, and at one that goes by the words.
type script struct {
	t    *testing.T
	r    *rand.Rand
	s    *store.Store
	w    words
	keys []string
	near int // the Wall that stamps lie near
	done map[string]int
}

func (s *script) some() api.Stamp {
	if s.r.IntN(30) == 0 {
		return []api.Stamp{at(-1, 0), at(0, 0), last, at(s.near, 65536), at(math.MinInt, 0), at(math.MaxInt, 0)}[s.r.IntN(6)]
	}
	return at(max(0, s.near-3+s.r.IntN(6)), []int{0, 1, 65535}[s.r.IntN(3)])
}

func (s *script) key() string {
	return s.keys[s.r.IntN(len(s.keys))]
}

func (s *script) span() api.Span {
	switch s.r.IntN(6) {
	case 0:
		return all
	case 1, 2:
		return one(s.key())
	case 3:
		return wrongSpans()[s.r.IntN(len(wrongSpans()))]
	}
	return from(s.key(), s.key())
}

// who is a transaction, here and there one whose intent is open.
func (s *script) who() (id, epoch int) {
	if c := s.s.Chain(s.key()); c.Open && s.r.IntN(2) == 0 {
		return c.Intent.Txn.ID, c.Intent.Txn.Epoch
	}
	return s.near*2 + s.r.IntN(4), s.r.IntN(3)
}

// acts once, at both; all other keys stay.
func (s *script) act() {
	id, epoch := s.who()
	before := s.w.copy()
	if s.r.IntN(2) == 0 {
		k, i := s.key(), intent(id, epoch, s.r.IntN(4), s.some(), fmt.Sprint(s.r.IntN(100)))
		if i.Gone = s.r.IntN(4) == 0; i.Gone && s.r.IntN(9) > 0 {
			i.Value = ""
		}
		i.Txn.Anchor = k
		got, want := put(s.s, k, i), s.w.put(k, i)
		if got != want {
			s.t.Fatalf("Put(%q, %v): %v, not %v", k, i, got, want)
		}
		s.done[fmt.Sprint("put ", got.e)]++
		s.stay(before, one(k))
		return
	}
	x, commit, when := s.span(), s.r.IntN(2) == 0, s.some()
	got, want := resolve(s.s, x, id, epoch, commit, when), s.w.resolve(x, id, epoch, commit, when)
	if got != want {
		s.t.Fatalf("Resolve(%v, %d, %d, %v, %v): %v, not %v", x, id, epoch, commit, when, got, want)
	}
	s.done[fmt.Sprint("resolve ", got.e, " ", commit, " ", min(got.n, 2))]++
	s.stay(before, x)
	if commit && got.n > 0 && when.Wall >= s.near && when.Wall < 1<<40 {
		s.near = when.Wall + s.r.IntN(2)
	}
}

// stay asks for each key's chain that the span doesn't have.
func (s *script) stay(before words, x api.Span) {
	for _, k := range s.keys {
		if isSpan(x) && has(x, k) {
			continue
		}
		if got := s.s.Chain(k); !alike(got, before[k]) {
			s.t.Fatalf("P9.2: Chain(%q) is %v, and was %v ahead of an act at %v", k, got, before[k], x)
		}
	}
}

// ask asks both, here and there.
func (s *script) ask() {
	id, epoch := s.who()
	x, a, b, k := s.span(), s.some(), s.some(), s.key()
	if got, want := read(s.s, x, a, b, id, epoch), s.w.read(x, a, b, id, epoch); !got.equal(want) {
		s.t.Fatalf("Read(%v, %v, %v, %d, %d): %v, not %v, of %v", x, a, b, id, epoch, got, want, s.w)
	} else {
		s.done[fmt.Sprint("read ", got.e, " ", min(len(got.pairs), 2))]++
	}
	if got, want := refresh(s.s, x, id, a, b), s.w.refresh(x, id, a, b); got != want {
		s.t.Fatalf("Refresh(%v, %d, %v, %v): %v, not %v, of %v", x, id, a, b, got, want, s.w)
	} else {
		s.done[fmt.Sprint("refresh ", got.e)]++
	}
	c := s.w[k]
	want := c.Open && c.Intent.Txn.ID == id && c.Intent.Txn.Epoch == epoch && c.Intent.Seq >= 2 && compare(c.Intent.At, a) <= 0
	if got := s.s.Query(k, id, epoch, 2, a); got != want {
		s.t.Fatalf("Query(%q, %d, %d, 2, %v): %v, of %v", k, id, epoch, a, got, c)
	}
	s.done[fmt.Sprint("query ", want)]++
}

// change puts another store in the place of this one: of its bytes, or a copy.
func (s *script) change() {
	switch s.r.IntN(3) {
	case 0:
		p, e := store.Parse(s.s.Bytes())
		if e != api.OK {
			s.t.Fatalf("P9.3: %v of % x", e, s.s.Bytes())
		}
		s.s = p
	case 1:
		old := s.s
		s.s = old.Copy()
		old.Resolve(all, s.near*2, 0, true, at(s.near+99, 0))
		old.Put(s.keys[0], intent(999, 9, 9, at(1, 0), "apart"))
	}
}

func TestLongScripts(t *testing.T) { // P9.1, P9.2, P9.3
	done := map[string]int{}
	for seed := range uint64(120) {
		keys := []string{"b", "ba", "c", "d", "dd", "m", "zzzzzzzz"}[:1+seed%7]
		s := &script{t: t, r: rand.New(rand.NewPCG(seed, 9)), s: store.New(), w: words{}, keys: keys, near: 3, done: done}
		for range 150 {
			s.act()
			is(t, s.s, s.w)
			s.ask()
			s.change()
			is(t, s.s, s.w)
		}
	}
	// Scripts that lack one of these would say nothing of it.
	for _, k := range []string{
		"put error 0", "put error 1", "put error 81", "put error 83", "put error 84", "put error 31",
		"resolve error 0 true 0", "resolve error 0 true 1", "resolve error 0 true 2", "resolve error 0 false 1", "resolve error 0 false 2",
		"resolve error 51 true 0", "resolve error 84 true 0",
		"read error 0 0", "read error 0 1", "read error 0 2", "read error 51 0", "read error 81 0", "read error 82 0",
		"refresh error 0", "refresh error 51", "refresh error 81", "refresh error 221", "query true", "query false",
	} {
		if done[k] < 20 {
			t.Errorf("%s: %d times", k, done[k])
		}
	}
}

func TestAnyArguments(t *testing.T) { // P1: any spans, stamps, numbers and texts
	r := rand.New(rand.NewPCG(9, 9))
	numbers := []int{math.MinInt, -1, 0, 1, 7, 65535, 65536, 1 << 40, 1<<40 + 1, math.MaxInt}
	number := func() int { return numbers[r.IntN(len(numbers))] }
	when := func() api.Stamp { return at(number(), number()) }
	texts := []string{"", "a", "b", "c", "{", "A", "\x00", "\xff", "abcdefgh", "abcdefghi", "seventeen-bytes-xx"}
	word := func() string { return texts[r.IntN(len(texts))] }
	s, w := store.New(), words{}
	for n := range 60000 {
		x := from(word(), word())
		i := api.Intent{Txn: api.Meta{ID: number(), Epoch: number(), Anchor: word(), Start: when()}, Seq: number(), At: when(), Value: word(), Gone: r.IntN(2) == 0}
		if k := word(); put(s, k, i) != w.put(k, i) {
			t.Fatalf("Put(%q, %v)", k, i)
		}
		a, b, id, epoch, commit := when(), when(), number(), number(), r.IntN(2) == 0
		if got, want := read(s, x, a, b, id, epoch), w.read(x, a, b, id, epoch); !got.equal(want) {
			t.Fatalf("Read(%v, %v, %v, %d, %d): %v, not %v, of %v", x, a, b, id, epoch, got, want, w)
		}
		if got, want := refresh(s, x, id, a, b), w.refresh(x, id, a, b); got != want {
			t.Fatalf("Refresh(%v, %d, %v, %v): %v, not %v", x, id, a, b, got, want)
		}
		if got, want := resolve(s, x, id, epoch, commit, a), w.resolve(x, id, epoch, commit, a); got != want {
			t.Fatalf("Resolve(%v, %d, %d, %v, %v): %v, not %v", x, id, epoch, commit, a, got, want)
		}
		if !slices.Equal(s.Keys(), w.keys()) || !alike(s.Chain("b"), w["b"]) || !alike(s.Copy().Chain("a"), w["a"]) {
			t.Fatalf("%v, not %v", s.Keys(), w)
		}
		s.Query(word(), id, epoch, number(), b)
		store.Parse(s.Bytes())
		if n%500 == 499 {
			s, w = store.New(), words{}
		}
	}
}
