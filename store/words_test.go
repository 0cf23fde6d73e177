package store_test

import (
	"cmp"
	"maps"
	"slices"
	"testing"

	"wampum/api"
	"wampum/store"
	"wampum/version"
)

// words is a store that goes by the chapter's words alone: all keys are gone through, one after the other.
type words map[string]api.Chain

// seen is all that Read answers, laid all that Put does, decided all that Resolve does, refreshed all that Refresh does.
type seen struct {
	pairs []api.Pair
	at    api.Stamp
	txn   api.Meta
	e     api.Errno
}

type laid struct {
	at  api.Stamp
	txn api.Meta
	e   api.Errno
}

type decided struct {
	n int
	e api.Errno
}

type refreshed struct {
	txn api.Meta
	e   api.Errno
}

func (s seen) equal(o seen) bool {
	return slices.Equal(s.pairs, o.pairs) && s.at == o.at && s.txn == o.txn && s.e == o.e
}

func read(s *store.Store, x api.Span, at, limit api.Stamp, id, epoch int) seen {
	pairs, when, txn, e := s.Read(x, at, limit, id, epoch)
	return seen{pairs, when, txn, e}
}

func put(s *store.Store, key string, i api.Intent) laid {
	when, txn, e := s.Put(key, i)
	return laid{when, txn, e}
}

func resolve(s *store.Store, x api.Span, id, epoch int, commit bool, at api.Stamp) decided {
	n, e := s.Resolve(x, id, epoch, commit, at)
	return decided{n, e}
}

func refresh(s *store.Store, x api.Span, id int, from, to api.Stamp) refreshed {
	txn, e := s.Refresh(x, id, from, to)
	return refreshed{txn, e}
}

// isKey is chapter 5's, not by package span.
func isKey(s string) bool {
	for _, c := range []byte(s) {
		if c < 'a' || c > 'z' {
			return false
		}
	}
	return len(s) >= 1 && len(s) <= 8
}

func isSpan(x api.Span) bool {
	if x.To == "" {
		return isKey(x.From)
	}
	return isKey(x.From) && (x.To == "{" || isKey(x.To)) && x.From < x.To
}

func has(x api.Span, key string) bool {
	return key == x.From || key > x.From && key < x.To
}

// isStamp and compare are chapter 3's, not by package stamp.
func isStamp(s api.Stamp) bool {
	return s.Wall >= 0 && s.Wall <= 1<<40 && s.Logical >= 0 && s.Logical <= 65535
}

func compare(a, b api.Stamp) int {
	return cmp.Or(cmp.Compare(a.Wall, b.Wall), cmp.Compare(a.Logical, b.Logical))
}

func alike(a, b api.Chain) bool {
	return a.Open == b.Open && a.Intent == b.Intent && slices.Equal(a.Versions, b.Versions)
}

// cloned is a chain that shares no memory.
func cloned(c api.Chain) api.Chain {
	c.Versions = slices.Clone(c.Versions)
	return c
}

func (w words) keys() []string {
	return slices.Sorted(maps.Keys(w))
}

func (w words) copy() words {
	out := words{}
	for k, c := range w {
		out[k] = cloned(c)
	}
	return out
}

func (w words) read(x api.Span, at, limit api.Stamp, id, epoch int) seen {
	if !isSpan(x) {
		return seen{e: api.ErrKey}
	}
	var pairs []api.Pair
	var unsure []api.Stamp
	for _, k := range w.keys() {
		if !has(x, k) || len(pairs) == 50 {
			continue
		}
		v, is, txn, e := version.Read(w[k], at, limit, id, epoch)
		switch {
		case e == api.ErrIntent:
			return seen{txn: txn, e: e}
		case e == api.ErrUnsure:
			unsure = append(unsure, v.At)
		case is:
			pairs = append(pairs, api.Pair{Key: k, Value: v.Value})
		}
	}
	if len(unsure) > 0 {
		return seen{at: slices.MaxFunc(unsure, compare), e: api.ErrUnsure}
	}
	return seen{pairs: pairs}
}

func isValue(v string, gone bool) bool {
	for _, c := range []byte(v) {
		if c < 33 || c > 126 {
			return false
		}
	}
	return len(v) <= 16 && !(gone && v != "")
}

func (w words) put(key string, i api.Intent) laid {
	if !isKey(key) {
		return laid{e: api.ErrKey}
	}
	if !isValue(i.Value, i.Gone) {
		return laid{e: api.ErrArg}
	}
	c, at, txn, e := version.Write(w[key], i)
	if e != api.OK {
		return laid{txn: txn, e: e}
	}
	w[key] = c
	return laid{at: at}
}

func (w words) resolve(x api.Span, id, epoch int, commit bool, at api.Stamp) decided {
	if !isSpan(x) {
		return decided{e: api.ErrKey}
	}
	n, now := 0, w.copy()
	for k, c := range w {
		if !has(x, k) {
			continue
		}
		d, e := version.Resolve(c, id, epoch, commit, at)
		if e != api.OK {
			return decided{e: e}
		}
		if c.Open != d.Open {
			n++
		}
		now[k] = d
		if len(d.Versions) == 0 && !d.Open {
			delete(now, k)
		}
	}
	clear(w)
	maps.Copy(w, now)
	return decided{n: n}
}

func (w words) refresh(x api.Span, id int, from, to api.Stamp) refreshed {
	if !isSpan(x) {
		return refreshed{e: api.ErrKey}
	}
	out := refreshed{}
	for _, k := range w.keys() {
		if !has(x, k) {
			continue
		}
		txn, e := version.Refresh(w[k], id, from, to)
		if e == api.ErrIntent {
			return refreshed{txn, e}
		}
		if e == api.ErrRetry {
			out.e = e
		}
	}
	return out
}

// entry is what the bytes tell of one key.
type entry struct {
	key   string
	chain api.Chain
}

// number, flag and text are chapter 1's, not by package pack; a number below 0 is not asked for.
func number(b []byte, v int) []byte {
	for ; v >= 128; v /= 128 {
		b = append(b, byte(v%128)|128)
	}
	return append(b, byte(v))
}

func flag(b []byte, v bool) []byte {
	if v {
		return append(b, 1)
	}
	return append(b, 0)
}

func text(b []byte, s string) []byte {
	return append(number(b, len(s)), s...)
}

func stamped(b []byte, s api.Stamp) []byte {
	return number(number(b, s.Wall), s.Logical)
}

// bytesOf are those of keys in any order, right or not.
func bytesOf(l []entry) []byte {
	b := number(nil, len(l))
	for _, x := range l {
		b = number(text(b, x.key), len(x.chain.Versions))
		for _, v := range x.chain.Versions {
			b = number(flag(text(stamped(b, v.At), v.Value), v.Gone), v.By)
		}
		b = flag(b, x.chain.Open)
		if i := x.chain.Intent; x.chain.Open {
			b = text(number(number(b, i.Txn.ID), i.Txn.Epoch), i.Txn.Anchor)
			b = stamped(number(stamped(b, i.Txn.Start), i.Seq), i.At)
			b = flag(text(b, i.Value), i.Gone)
		}
	}
	return b
}

func (w words) entries() []entry {
	var l []entry
	for _, k := range w.keys() {
		l = append(l, entry{k, w[k]})
	}
	return l
}

// taking takes parts from bytes; bad tells that one was not there.
type taking struct {
	b   []byte
	bad bool
}

func (t *taking) number(most int) int {
	v := 0
	for n, c := range t.b {
		if n == 9 || c == 0 && n > 0 {
			break
		}
		v += int(c&127) << (7 * n)
		if c < 128 {
			if v > most {
				break
			}
			t.b = t.b[n+1:]
			return v
		}
	}
	t.bad, t.b = true, nil
	return 0
}

func (t *taking) text(most int) string {
	n := t.number(most)
	if n > len(t.b) {
		t.bad, t.b = true, nil
		return ""
	}
	s := string(t.b[:n])
	t.b = t.b[n:]
	return s
}

func (t *taking) stamp() api.Stamp {
	w := t.number(1 << 40)
	return api.Stamp{Wall: w, Logical: t.number(65535)}
}

func (t *taking) chain() api.Chain {
	var c api.Chain
	for n := t.number(1 << 40); n > 0 && !t.bad; n-- {
		v := api.Version{At: t.stamp(), Value: t.text(16), Gone: t.number(1) == 1, By: t.number(1 << 40)}
		c.Versions = append(c.Versions, v)
		t.bad = t.bad || !isValue(v.Value, v.Gone)
	}
	if t.number(1) == 1 {
		c.Open = true
		c.Intent.Txn = api.Meta{ID: t.number(1 << 40), Epoch: t.number(1 << 40), Anchor: t.text(8), Start: t.stamp()}
		c.Intent.Seq, c.Intent.At, c.Intent.Value, c.Intent.Gone = t.number(1<<40), t.stamp(), t.text(16), t.number(1) == 1
		t.bad = t.bad || !isValue(c.Intent.Value, c.Intent.Gone) || !isKey(c.Intent.Txn.Anchor)
	}
	return c
}

// wordsParse is the store of bytes, if they are such ones.
func wordsParse(b []byte) (words, bool) {
	t := &taking{b: slices.Clone(b)}
	w, ahead := words{}, ""
	for n := t.number(1 << 40); n > 0 && !t.bad; n-- {
		k := t.text(8)
		c := t.chain()
		if !isKey(k) || k <= ahead || !version.Right(c) || !c.Open && len(c.Versions) == 0 {
			return nil, false
		}
		w[k], ahead = c, k
	}
	return w, !t.bad && len(t.b) == 0
}

// is holds a store against one of the words: its keys, each chain, its bytes.
func is(t *testing.T, s *store.Store, w words) {
	t.Helper()
	if got := s.Keys(); !slices.Equal(got, w.keys()) {
		t.Fatalf("Keys: %v, not %v", got, w.keys())
	}
	for k, c := range w {
		if got := s.Chain(k); !alike(got, c) {
			t.Fatalf("Chain(%q): %v, not %v", k, got, c)
		}
	}
	if got, want := s.Bytes(), bytesOf(w.entries()); !slices.Equal(got, want) {
		t.Fatalf("Bytes: % x, not % x", got, want)
	}
}

// parsed is the store of the words' bytes.
func parsed(t *testing.T, w words) *store.Store {
	t.Helper()
	s, e := store.Parse(bytesOf(w.entries()))
	if e != api.OK {
		t.Fatalf("Parse of the keys %v: %v", w.keys(), e)
	}
	is(t, s, w)
	return s
}
