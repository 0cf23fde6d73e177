package span_test

import (
	"math/rand/v2"
	"slices"
	"strings"
	"testing"

	"wampum/api"
	"wampum/span"
)

func of(from, to string) api.Span {
	return api.Span{From: from, To: to}
}

// keys are some, rising: next to one another, of 1 and of 8 letters, the first and the last of all.
func keys() []string {
	return []string{
		"a", "aa", "aaaaaaaa", "ab", "azzzzzzz", "b", "ba", "baaaaaaa", "bb", "bzzzzzzz",
		"c", "f", "m", "y", "yzzzzzzz", "z", "za", "zz", "zzzzzzz", "zzzzzzzy", "zzzzzzzz",
	}
}

// wrongs are texts that are no keys.
func wrongs() []string {
	return []string{
		"", " ", "{", "`", "|", "}", "A", "Z", "0", "\x00", "\xff", "é", "ä", "a ", " a", "a\n", "a\x00", "\x00a",
		"aB", "Ba", "a1", "1a", "a{", "{a", "z{", "{{", "b-c", "aé", "\xe1", "abcdefg{", "{bcdefgh", "abcd efg",
		"aaaaaaaaa", "abcdefghi", "zzzzzzzzz", "zzzzzzzz{", strings.Repeat("a", 100), strings.Repeat("z", 1<<16),
	}
}

// spans are all that have those for their ends, right ones and others.
func spans() []api.Span {
	ends := slices.Concat(keys(), wrongs())
	var out []api.Span
	for _, from := range ends {
		for _, to := range ends {
			out = append(out, of(from, to))
		}
	}
	return out
}

func rights() []api.Span {
	return slices.DeleteFunc(spans(), func(s api.Span) bool { return !isRight(s) })
}

// place is where a text stands among the keys, which are rising; -1, if it is none of them.
func place(key string) int {
	return slices.Index(keys(), key)
}

// isRight is told by places alone, of a span whose ends are of keys and wrongs.
func isRight(s api.Span) bool {
	from := place(s.From)
	return from >= 0 && (s.To == "" || s.To == "{" || place(s.To) > from)
}

// isIn is told by places alone, of a right span.
func isIn(s api.Span, key string) bool {
	from, at := place(s.From), place(key)
	switch s.To {
	case "":
		return at == from
	case "{":
		return at >= from
	}
	return at >= from && at < place(s.To)
}

func TestKey(t *testing.T) { // P5.1
	for _, k := range keys() {
		if !span.Key(k) {
			t.Errorf("Key(%q): false", k)
		}
	}
	for _, w := range wrongs() {
		if span.Key(w) {
			t.Errorf("Key(%q): true", w)
		}
	}
}

func TestKeyLengths(t *testing.T) { // P5.1
	for _, letter := range []string{"a", "k", "z"} {
		for n := range 20 {
			if got := span.Key(strings.Repeat(letter, n)); got != (n >= 1 && n <= 8) {
				t.Errorf("Key of %d times %s: %v", n, letter, got)
			}
		}
	}
}

func TestKeyLetters(t *testing.T) { // P5.1: each byte at each place
	for n := 1; n <= api.MaxKey; n++ {
		for at := range n {
			for c := range 256 {
				b := []byte(strings.Repeat("m", n))
				b[at] = byte(c)
				if got := span.Key(string(b)); got != (c >= 'a' && c <= 'z') {
					t.Errorf("Key(%q): %v", b, got)
				}
			}
		}
	}
}

func TestRight(t *testing.T) { // P5.1
	for _, c := range []struct {
		s    api.Span
		want bool
	}{
		{of("b", "d"), true},
		{of("b", ""), true},
		{of("b", "{"), true},
		{of("a", "zzzzzzzz"), true},
		{of("b", "ba"), true},
		{of("zzzzzzzz", "{"), true},
		{of("zzzzzzzz", ""), true},
		{of("abcdefgh", "abcdefgi"), true},
		{api.Span{}, false},
		{of("", "b"), false},
		{of("", "{"), false},
		{of("b", "b"), false},
		{of("c", "b"), false},
		{of("ba", "b"), false},
		{of("{", ""), false},
		{of("{", "{"), false},
		{of("B", ""), false},
		{of("B", "d"), false},
		{of("abcdefghi", ""), false},
		{of("abcdefghi", "{"), false},
		{of("b", "}"), false},
		{of("b", "{{"), false},
		{of("b", "c1"), false},
		{of("b", "abcdefghi"), false},
		{of("b", "bcdefghij"), false},
		{of("b", "é"), false},
	} {
		if got := span.Right(c.s); got != c.want {
			t.Errorf("Right(%q): %v", c.s, got)
		}
	}
}

func TestRightOfAllEnds(t *testing.T) { // P5.1
	for _, s := range spans() {
		if got := span.Right(s); got != isRight(s) {
			t.Errorf("Right(%.20q): %v", s, got)
		}
	}
}

func TestHas(t *testing.T) { // P5.1
	for _, c := range []struct {
		s    api.Span
		key  string
		want bool
	}{
		{of("b", "d"), "b", true},
		{of("b", "d"), "ba", true},
		{of("b", "d"), "c", true},
		{of("b", "d"), "czzzzzzz", true},
		{of("b", "d"), "d", false},
		{of("b", "d"), "da", false},
		{of("b", "d"), "a", false},
		{of("b", "d"), "azzzzzzz", false},
		{of("b", ""), "b", true},
		{of("b", ""), "ba", false},
		{of("b", ""), "a", false},
		{of("b", ""), "c", false},
		{of("bb", "{"), "b", false},
		{of("bb", "{"), "bb", true},
		{of("bb", "{"), "zzzzzzzz", true},
		{of("bb", "{"), "{", false},
		{of("b", "d"), "", false},
		{of("b", "d"), "C", false},
		{of("b", "d"), "c1", false},
		{of("b", "d"), "c{", false},
		{of("b", "d"), "bcdefghij", false},
		{api.Span{}, "", false},
		{api.Span{}, "a", false},
		{of("", "d"), "b", false},
		{of("b", "b"), "b", false},
		{of("d", "b"), "c", false},
		{of("B", ""), "B", false},
		{of("bcdefghij", ""), "bcdefghij", false},
		{of("B", "d"), "c", false},
		{of("b", "d1"), "c", false},
		{of("b", "}"), "c", false},
	} {
		if got := span.Has(c.s, c.key); got != c.want {
			t.Errorf("Has(%q, %q): %v", c.s, c.key, got)
		}
	}
}

func TestHasOfAllEnds(t *testing.T) { // P5.1
	for _, s := range spans() {
		for _, k := range keys() {
			if got := span.Has(s, k); got != (isRight(s) && isIn(s, k)) {
				t.Errorf("Has(%.20q, %q): %v", s, k, got)
			}
		}
		for _, w := range wrongs() {
			if span.Has(s, w) {
				t.Errorf("Has(%.20q, %.20q): true", s, w)
			}
		}
	}
}

// clip asks for what both have, either way round, and whether they meet.
func clip(t *testing.T, a, b, want api.Span, is bool) {
	t.Helper()
	for range 2 {
		if got, ok := span.Clip(a, b); got != want || ok != is {
			t.Errorf("Clip(%.20q, %.20q): %q, %v, not %q, %v", a, b, got, ok, want, is)
		}
		if got := span.Meet(a, b); got != is {
			t.Errorf("Meet(%.20q, %.20q): %v", a, b, got)
		}
		a, b = b, a
	}
}

func TestClip(t *testing.T) { // P5.1
	for _, c := range []struct {
		a, b, want api.Span
	}{
		{of("b", "m"), of("f", "{"), of("f", "m")},
		{of("b", "d"), of("b", "d"), of("b", "d")},
		{of("b", "d"), of("c", "z"), of("c", "d")},
		{of("b", "z"), of("c", "d"), of("c", "d")},
		{of("b", "d"), of("b", "c"), of("b", "c")},
		{of("b", "d"), of("c", "d"), of("c", "d")},
		{of("b", "d"), of("bb", ""), of("bb", "")},
		{of("b", "d"), of("b", ""), of("b", "")},
		{of("b", "d"), of("czzzzzzz", ""), of("czzzzzzz", "")},
		{of("b", ""), of("b", ""), of("b", "")},
		{of("zzzzzzzz", ""), of("z", "{"), of("zzzzzzzz", "")},
		// One key alone in common, by two spans with a To: the clip has one too.
		{of("a", "ba"), of("b", "d"), of("b", "ba")},
		{of("zzzzzzzz", "{"), span.All(), of("zzzzzzzz", "{")},
	} {
		clip(t, c.a, c.b, c.want, true)
	}
}

func TestClipOfNothing(t *testing.T) { // P5.1
	for _, c := range []struct {
		a, b api.Span
	}{
		// They touch.
		{of("a", "b"), of("b", "d")},
		{of("b", "d"), of("d", "")},
		{of("b", "ba"), of("ba", "{")},
		// They are apart.
		{of("a", "b"), of("c", "d")},
		{of("b", "d"), of("a", "")},
		{of("b", "d"), of("azzzzzzz", "")},
		{of("b", ""), of("c", "")},
		{of("b", ""), of("ba", "")},
		// One is not right, or neither is.
		{api.Span{}, api.Span{}},
		{api.Span{}, span.All()},
		{of("", "c"), of("b", "d")},
		{of("b", "b"), of("b", "d")},
		{of("b", "b"), of("b", "")},
		{of("b", "a"), of("b", "")},
		{of("d", "b"), of("a", "{")},
		{of("B", ""), of("B", "")},
		{of("B", "d"), of("b", "d")},
		{of("b", "}"), of("b", "d")},
		{of("b", "c1"), of("b", "")},
		{of("bcdefghij", ""), of("b", "d")},
		{of("b", "bcdefghij"), of("b", "")},
		{of("{", ""), span.All()},
	} {
		clip(t, c.a, c.b, api.Span{}, false)
	}
}

func TestClipWithAll(t *testing.T) { // P5.1: all keys and a span have those of the span
	for _, s := range spans() {
		if isRight(s) {
			clip(t, s, span.All(), s, true)
		} else {
			clip(t, s, span.All(), api.Span{}, false)
			clip(t, s, s, api.Span{}, false)
			clip(t, s, of("b", ""), api.Span{}, false)
		}
	}
}

func TestInBoth(t *testing.T) { // P5.1, P5.2: all right spans with all right spans
	all := rights()
	for _, a := range all {
		for _, b := range all {
			c, is := span.Clip(a, b)
			some := false
			for _, k := range keys() {
				in := isIn(a, k) && isIn(b, k)
				some = some || in
				if span.Has(c, k) != in {
					t.Fatalf("Clip(%q, %q): %q, %v: has %q: %v", a, b, c, is, k, !in)
				}
			}
			// If they meet, then at the greater From, which is one of the keys here.
			if is != some || is != span.Right(c) || span.Meet(a, b) != some {
				t.Fatalf("Clip(%q, %q): %q, %v, Meet %v", a, b, c, is, span.Meet(a, b))
			}
			if !is && c != (api.Span{}) || is && (c.To == "") != (a.To == "" || b.To == "") {
				t.Fatalf("Clip(%q, %q): %q, %v", a, b, c, is)
			}
		}
	}
}

func TestInBothOfManyKeys(t *testing.T) { // P5.2: keys of three letters, that the spans do not name
	r := rand.New(rand.NewPCG(5, 2))
	word := func() string {
		b := make([]byte, 1+r.IntN(3))
		for i := range b {
			b[i] = "abyz"[r.IntN(4)]
		}
		return string(b)
	}
	some := func() api.Span {
		return of(word(), []string{"", "{", word(), word(), word(), word()}[r.IntN(6)])
	}
	met := 0
	for range 20000 {
		a, b := some(), some()
		c, is := span.Clip(a, b)
		if is {
			met++
		}
		for range 20 {
			k := word()
			in := span.Has(a, k) && span.Has(b, k)
			if in != span.Has(c, k) || in && !is {
				t.Fatalf("Clip(%q, %q): %q, %v: %q is in both: %v", a, b, c, is, k, in)
			}
		}
	}
	if met < 1000 {
		t.Errorf("only %d met", met)
	}
}

func TestAll(t *testing.T) { // P5.1
	all := span.All()
	if all != of("a", "{") || !span.Right(all) {
		t.Errorf("All: %q", all)
	}
	for _, k := range keys() {
		if !span.Has(all, k) {
			t.Errorf("All has not %q", k)
		}
	}
	for _, w := range wrongs() {
		if span.Has(all, w) {
			t.Errorf("All has %.20q", w)
		}
	}
}

func TestKeys(t *testing.T) { // P5.1
	for _, c := range []struct {
		s       api.Span
		l, want []string
	}{
		{of("b", "d"), []string{"b", "c"}, []string{"b", "c"}},
		{of("b", "d"), []string{"c", "b", "d", "c", "A"}, []string{"b", "c"}},
		{of("b", "d"), []string{"czzzzzzz", "d", "azzzzzzz", "a", "ba", "b"}, []string{"b", "ba", "czzzzzzz"}},
		{of("b", "d"), []string{"c", "c", "c"}, []string{"c"}},
		{of("b", "d"), []string{"c", "b", "c", "b"}, []string{"b", "c"}},
		{of("b", "d"), []string{"a", "d", "e", "z"}, nil},
		{of("b", ""), []string{"c", "b", "ba", "a", "b"}, []string{"b"}},
		{of("b", ""), []string{"a", "c"}, nil},
		{of("z", "{"), []string{"{", "zzzzzzzz", "y", "z"}, []string{"z", "zzzzzzzz"}},
		{span.All(), []string{"", "b", "bcdefghij", "bcdefghi", "B", "é", "{", "a1", "a"}, []string{"a", "b", "bcdefghi"}},
		{span.All(), []string{"", "{", "A"}, nil},
		{span.All(), []string{}, nil},
		{span.All(), nil, nil},
		{api.Span{}, []string{"", "a", "b"}, nil},
		{api.Span{}, nil, nil},
		{of("", "{"), []string{"a"}, nil},
		{of("b", "b"), []string{"b"}, nil},
		{of("d", "b"), []string{"b", "c", "d"}, nil},
		{of("B", ""), []string{"B", "b"}, nil},
		{of("b", "}"), []string{"b", "c"}, nil},
	} {
		if got := span.Keys(c.s, c.l); !slices.Equal(got, c.want) {
			t.Errorf("Keys(%q, %q): %q", c.s, c.l, got)
		}
	}
}

func TestKeysOfAllEnds(t *testing.T) { // P5.1: a list of all texts, each twice, in no order, by all spans
	l := slices.Concat(keys(), wrongs(), wrongs(), keys())
	r := rand.New(rand.NewPCG(5, 1))
	for _, s := range spans() {
		r.Shuffle(len(l), func(i, j int) { l[i], l[j] = l[j], l[i] })
		var want []string
		for _, k := range keys() {
			if isRight(s) && isIn(s, k) {
				want = append(want, k)
			}
		}
		if got := span.Keys(s, l); !slices.Equal(got, want) {
			t.Errorf("Keys(%.20q): %q, not %q", s, got, want)
		}
	}
}

func TestKeysLeavesTheList(t *testing.T) { // rule 4: neither the list nor what lies behind it is written into
	for _, c := range []struct {
		s    api.Span
		want []string
	}{
		{of("b", "d"), []string{"b", "c"}},
		{span.All(), []string{"a", "b", "c"}},
		{of("x", ""), nil},
		{api.Span{}, nil},
	} {
		whole := []string{"c", "A", "b", "c", "a", "", "b", "bb", "ba", "Z"}
		l := whole[:7]
		before := slices.Clone(whole)
		if got := span.Keys(c.s, l); !slices.Equal(got, c.want) {
			t.Errorf("Keys(%q): %q", c.s, got)
		}
		if !slices.Equal(whole, before) {
			t.Errorf("Keys(%q): the list is %q now", c.s, whole)
		}
	}
}

func TestKeysAnswersNewMemory(t *testing.T) { // rule 4
	whole := []string{"a", "b", "c", "d"}
	for n := range len(whole) + 1 {
		l := whole[:n]
		one, two := span.Keys(span.All(), l), span.Keys(span.All(), l)
		for i := range one {
			one[i] = "x"
		}
		one = append(one, "x", "x", "x", "x")
		if !slices.Equal(two, l) || !slices.Equal(whole, []string{"a", "b", "c", "d"}) || len(one) != n+4 {
			t.Errorf("Keys of %d: %q, the list is %q now", n, two, whole)
		}
		if n > 0 {
			l[0] = "y"
			if two[0] != "a" {
				t.Errorf("Keys of %d: %q, behind a change of the list", n, two)
			}
			l[0] = "a"
		}
	}
}

func TestTheSameAgain(t *testing.T) { // P1, P2: what is answered hangs on the arguments alone
	r := rand.New(rand.NewPCG(1, 2))
	text := func() string {
		b := make([]byte, r.IntN(12))
		for i := range b {
			b[i] = "abz{`A0\x00\xff"[r.IntN(9)]
		}
		return string(b)
	}
	ask := func(a, b api.Span, l []string) (string, []string) {
		c, is := span.Clip(a, b)
		tell := []byte(c.From + "|" + c.To + "|")
		for _, v := range []bool{is, span.Meet(a, b), span.Right(a), span.Key(a.From), span.Has(a, b.From)} {
			if v {
				tell = append(tell, '1')
			} else {
				tell = append(tell, '0')
			}
		}
		return string(tell), span.Keys(a, l)
	}
	for range 5000 {
		a, b, l := of(text(), text()), of(text(), text()), []string{text(), text(), text()}
		tell, some := ask(a, b, l)
		ask(of(text(), text()), b, []string{text(), text()})
		again, same := ask(a, b, l)
		if tell != again || !slices.Equal(some, same) {
			t.Fatalf("%q, %q, %q: %q, %q, then %q, %q", a, b, l, tell, some, again, same)
		}
	}
}
