package version_test

import (
	"fmt"
	"math"
	"math/rand/v2"
	"slices"
	"testing"

	"wampum/api"
	"wampum/version"
)

func at(wall, logical int) api.Stamp {
	return api.Stamp{Wall: wall, Logical: logical}
}

// last is the greatest right stamp, nextToLast the one ahead of it.
var (
	last       = at(1<<40, 65535)
	nextToLast = at(1<<40, 65534)
)

// wrong are stamps that are not right, by rising stamps.
func wrong() []api.Stamp {
	return []api.Stamp{
		at(math.MinInt, 0), at(-1, 0), at(-1, 65535), at(0, math.MinInt), at(0, -1), at(3, -1), at(3, 65536),
		at(3, math.MaxInt), at(1<<40, -1), at(1<<40, 65536), at(1<<40+1, 0), at(math.MaxInt, 0),
	}
}

// ver is a version of a value; gone one without.
func ver(s api.Stamp, value string, by int) api.Version {
	return api.Version{At: s, Value: value, By: by}
}

func gone(s api.Stamp, by int) api.Version {
	return api.Version{At: s, Gone: true, By: by}
}

// intent is one of a value.
func intent(id, epoch, seq int, s api.Stamp, value string) api.Intent {
	return api.Intent{Txn: api.Meta{ID: id, Epoch: epoch, Anchor: "anchor", Start: at(1, id)}, Seq: seq, At: s, Value: value}
}

func goneIntent(id, epoch, seq int, s api.Stamp) api.Intent {
	i := intent(id, epoch, seq, s, "")
	i.Gone = true
	return i
}

// closed is a chain of those versions, open one with an intent as well.
func closed(vs ...api.Version) api.Chain {
	return api.Chain{Versions: vs}
}

func open(i api.Intent, vs ...api.Version) api.Chain {
	return api.Chain{Versions: vs, Open: true, Intent: i}
}

// alike holds two chains against each other, without version.Same.
func alike(a, b api.Chain) bool {
	return a.Open == b.Open && a.Intent == b.Intent && slices.Equal(a.Versions, b.Versions)
}

// seen is all that Read answers, written all that Write does, resolved all that Resolve does.
type seen struct {
	v   api.Version
	is  bool
	txn api.Meta
	e   api.Errno
}

type written struct {
	c   api.Chain
	at  api.Stamp
	txn api.Meta
	e   api.Errno
}

type resolved struct {
	c api.Chain
	e api.Errno
}

type refreshed struct {
	txn api.Meta
	e   api.Errno
}

func read(c api.Chain, s, limit api.Stamp, id, epoch int) seen {
	v, is, txn, e := version.Read(c, s, limit, id, epoch)
	return seen{v, is, txn, e}
}

func write(c api.Chain, i api.Intent) written {
	d, s, txn, e := version.Write(c, i)
	return written{d, s, txn, e}
}

func resolve(c api.Chain, id, epoch int, commit bool, s api.Stamp) resolved {
	d, e := version.Resolve(c, id, epoch, commit, s)
	return resolved{d, e}
}

func refresh(c api.Chain, id int, from, to api.Stamp) refreshed {
	txn, e := version.Refresh(c, id, from, to)
	return refreshed{txn, e}
}

func (w written) equal(o written) bool {
	return alike(w.c, o.c) && w.at == o.at && w.txn == o.txn && w.e == o.e
}

func (r resolved) equal(o resolved) bool {
	return alike(r.c, o.c) && r.e == o.e
}

// nothing is what Read answers where there is nothing.
var nothing = seen{}

// reads holds what Read answers against what it must.
func reads(t *testing.T, c api.Chain, s, limit api.Stamp, id, epoch int, want seen) {
	t.Helper()
	if got := read(c, s, limit, id, epoch); got != want {
		t.Errorf("Read(%v, %v, %v, %d, %d): %v, not %v", c, s, limit, id, epoch, got, want)
	}
}

func writes(t *testing.T, c api.Chain, i api.Intent, want written) {
	t.Helper()
	if got := write(c, i); !got.equal(want) {
		t.Errorf("Write(%v, %v): %v, not %v", c, i, got, want)
	}
}

func resolves(t *testing.T, c api.Chain, id, epoch int, commit bool, s api.Stamp, want resolved) {
	t.Helper()
	if got := resolve(c, id, epoch, commit, s); !got.equal(want) {
		t.Errorf("Resolve(%v, %d, %d, %v, %v): %v, not %v", c, id, epoch, commit, s, got, want)
	}
}

func refreshes(t *testing.T, c api.Chain, id int, from, to api.Stamp, want refreshed) {
	t.Helper()
	if got := refresh(c, id, from, to); got != want {
		t.Errorf("Refresh(%v, %d, %v, %v): %v, not %v", c, id, from, to, got, want)
	}
}

func TestRight(t *testing.T) { // P8.1
	five := intent(7, 0, 1, at(5, 0), "new")
	for _, c := range []struct {
		c    api.Chain
		want bool
	}{
		{api.Chain{}, true},
		{api.Chain{Versions: []api.Version{}}, true},
		{closed(ver(at(0, 0), "none", 1)), true},
		{closed(ver(last, "last", 1)), true},
		{closed(ver(at(2, 0), "a", 1), gone(at(2, 1), 2), ver(at(3, 0), "b", 1)), true},
		{closed(ver(at(2, 65535), "a", 1), ver(at(3, 0), "a", 1)), true},
		{closed(ver(at(2, 0), "a", 1), ver(at(2, 0), "b", 2)), false},
		{closed(gone(at(2, 0), 1), gone(at(2, 0), 1)), false},
		{closed(ver(at(2, 1), "a", 1), ver(at(2, 0), "b", 2)), false},
		{closed(ver(at(3, 0), "a", 1), ver(at(2, 9), "b", 2)), false},
		{closed(ver(at(1, 0), "a", 1), ver(at(3, 0), "b", 2), ver(at(2, 0), "c", 3)), false},
		{closed(ver(at(2, 0), "a", 1), ver(at(1, 0), "b", 2), ver(at(3, 0), "c", 3)), false},
		{closed(ver(at(1, 0), "a", 1), ver(at(2, 0), "b", 2), ver(at(2, 0), "c", 3)), false},
		{open(five), true},
		{open(api.Intent{}), true},
		{open(intent(7, 0, 1, last, "")), true},
		{open(five, ver(at(4, 65535), "a", 1)), true},
		{open(five, ver(at(5, 0), "a", 1)), false},
		{open(five, ver(at(5, 1), "a", 1)), false},
		{open(five, ver(at(1, 0), "a", 1), ver(at(6, 0), "b", 1)), false},
		{open(five, ver(at(6, 0), "a", 1), ver(at(1, 0), "b", 1)), false},
		{open(api.Intent{}, ver(at(0, 0), "a", 1)), false},
		{open(intent(7, 0, 1, last, ""), ver(nextToLast, "a", 1)), true},
		{open(intent(7, 0, 1, last, ""), ver(last, "a", 1)), false},
		{api.Chain{Intent: five}, false},
		{api.Chain{Intent: five, Versions: []api.Version{ver(at(4, 0), "a", 1)}}, false},
		{api.Chain{Intent: api.Intent{Txn: api.Meta{ID: 1}}}, false},
		{api.Chain{Intent: api.Intent{Txn: api.Meta{Epoch: 1}}}, false},
		{api.Chain{Intent: api.Intent{Txn: api.Meta{Anchor: "k"}}}, false},
		{api.Chain{Intent: api.Intent{Txn: api.Meta{Start: at(0, 1)}}}, false},
		{api.Chain{Intent: api.Intent{Seq: 1}}, false},
		{api.Chain{Intent: api.Intent{At: at(0, 1)}}, false},
		{api.Chain{Intent: api.Intent{Value: "v"}}, false},
		{api.Chain{Intent: api.Intent{Gone: true}}, false},
	} {
		if got := version.Right(c.c); got != c.want {
			t.Errorf("Right(%v): %v", c.c, got)
		}
	}
}

func TestRightOfStampsThatAreNot(t *testing.T) { // P8.1
	for _, s := range wrong() {
		for _, c := range []api.Chain{
			closed(ver(s, "a", 1)),
			closed(ver(s, "a", 1), ver(last, "b", 2)),
			closed(ver(at(0, 0), "a", 1), ver(s, "b", 2)),
			open(intent(7, 0, 1, s, "new")),
			open(intent(7, 0, 1, s, "new"), ver(at(0, 0), "a", 1)),
			open(intent(7, 0, 1, last, "new"), ver(s, "a", 1)),
		} {
			if version.Right(c) {
				t.Errorf("Right(%v)", c)
			}
		}
	}
}

// many is a chain of versions at 2.0, 4.0, 4.1, 6.0 (gone) and 8.0.
func many() []api.Version {
	return []api.Version{ver(at(2, 0), "two", 1), ver(at(4, 0), "four", 2), ver(at(4, 1), "five", 3), gone(at(6, 0), 4), ver(at(8, 0), "eight", 5)}
}

func TestReadOfVersions(t *testing.T) { // P8.1
	c := closed(many()...)
	for _, d := range []struct {
		at   api.Stamp
		want seen
	}{
		{at(0, 0), nothing},
		{at(1, 65535), nothing},
		{at(2, 0), seen{v: c.Versions[0], is: true}},
		{at(2, 1), seen{v: c.Versions[0], is: true}},
		{at(3, 65535), seen{v: c.Versions[0], is: true}},
		{at(4, 0), seen{v: c.Versions[1], is: true}},
		{at(4, 1), seen{v: c.Versions[2], is: true}},
		{at(4, 2), seen{v: c.Versions[2], is: true}},
		{at(5, 65535), seen{v: c.Versions[2], is: true}},
		{at(6, 0), nothing},
		{at(7, 65535), nothing},
		{at(8, 0), seen{v: c.Versions[4], is: true}},
		{at(8, 1), seen{v: c.Versions[4], is: true}},
		{last, seen{v: c.Versions[4], is: true}},
		{at(math.MaxInt, math.MaxInt), seen{v: c.Versions[4], is: true}},
		{at(-1, 0), nothing},
		{at(math.MinInt, math.MinInt), nothing},
	} {
		// A limit at `at`, or below it, makes no version unsure.
		for _, limit := range []api.Stamp{d.at, at(1, 0), at(0, 0), at(-1, 5), at(math.MinInt, 0)} {
			if compare(limit, d.at) <= 0 {
				reads(t, c, d.at, limit, 0, 0, d.want)
				reads(t, c, d.at, limit, 5, 3, d.want)
			}
		}
	}
	reads(t, api.Chain{}, at(9, 0), at(9, 0), 0, 0, nothing)
	reads(t, api.Chain{Versions: []api.Version{}}, last, last, 7, 0, nothing)
}

func TestReadOfWhatIsNotSure(t *testing.T) { // P8.1
	c := closed(many()...)
	unsure := func(s api.Stamp) seen { return seen{v: api.Version{At: s}, e: api.ErrUnsure} }
	for _, d := range []struct {
		at, limit api.Stamp
		want      seen
	}{
		{at(0, 0), at(1, 65535), nothing},
		{at(0, 0), at(2, 0), unsure(at(2, 0))},
		{at(1, 65535), at(2, 0), unsure(at(2, 0))},
		{at(2, 0), at(3, 65535), seen{v: c.Versions[0], is: true}},
		{at(2, 0), at(4, 0), unsure(at(4, 0))},
		{at(2, 0), at(4, 1), unsure(at(4, 1))},
		{at(2, 0), at(5, 0), unsure(at(4, 1))},
		{at(4, 0), at(4, 0), seen{v: c.Versions[1], is: true}},
		{at(4, 0), at(4, 1), unsure(at(4, 1))},
		{at(4, 1), at(5, 65535), seen{v: c.Versions[2], is: true}},
		{at(5, 0), at(6, 0), unsure(at(6, 0))},
		{at(5, 0), at(7, 65535), unsure(at(6, 0))},
		{at(6, 0), at(7, 65535), nothing},
		{at(6, 0), at(8, 0), unsure(at(8, 0))},
		{at(0, 0), last, unsure(at(8, 0))},
		{at(-1, 0), at(math.MaxInt, 0), unsure(at(8, 0))},
		{at(8, 0), last, seen{v: c.Versions[4], is: true}},
		{last, at(2, 0), seen{v: c.Versions[4], is: true}},
	} {
		reads(t, c, d.at, d.limit, 0, 0, d.want)
		// One's own versions are as little sure as those of others.
		reads(t, c, d.at, d.limit, 5, 0, d.want)
	}
}

func TestReadOfItsOwnIntent(t *testing.T) { // P8.1
	c := open(intent(7, 2, 1, at(9, 3), "new"), many()...)
	own := seen{v: ver(at(9, 3), "new", 7), is: true}
	g := open(goneIntent(7, 2, 1, at(9, 3)), many()...)
	for _, s := range []api.Stamp{at(0, 0), at(2, 0), at(5, 0), at(9, 2), at(9, 3), at(9, 4), last, at(-1, 0)} {
		for _, limit := range []api.Stamp{at(0, 0), at(5, 0), at(9, 2), at(9, 3), last, at(-1, 0)} {
			reads(t, c, s, limit, 7, 2, own)
			reads(t, g, s, limit, 7, 2, nothing)
		}
	}
	reads(t, open(intent(0, 0, 0, at(1, 0), "zero")), at(0, 0), at(0, 0), 0, 0, seen{v: ver(at(1, 0), "zero", 0), is: true})
	// A chain that is not open has no intent to read.
	reads(t, api.Chain{Intent: intent(7, 2, 1, at(1, 0), "shut")}, at(5, 0), at(5, 0), 7, 2, nothing)
}

func TestReadOfItsOwnIntentOfAnotherEpoch(t *testing.T) { // P8.1
	for _, i := range []api.Intent{intent(7, 2, 1, at(9, 3), "new"), goneIntent(7, 2, 1, at(9, 3))} {
		c := open(i, many()...)
		for _, epoch := range []int{0, 1, 3, -2, math.MaxInt} {
			reads(t, c, at(1, 0), at(1, 0), 7, epoch, nothing)
			reads(t, c, at(4, 1), at(5, 0), 7, epoch, seen{v: c.Versions[2], is: true})
			reads(t, c, at(5, 0), at(9, 3), 7, epoch, seen{v: api.Version{At: at(8, 0)}, e: api.ErrUnsure})
			reads(t, c, at(6, 0), at(7, 0), 7, epoch, nothing)
			reads(t, c, at(9, 3), last, 7, epoch, seen{v: c.Versions[4], is: true})
		}
	}
}

func TestReadOfAnotherOnesIntent(t *testing.T) { // P8.1
	for _, i := range []api.Intent{intent(7, 2, 1, at(9, 3), "new"), goneIntent(7, 2, 1, at(9, 3))} {
		c := open(i, many()...)
		inTheWay := seen{txn: api.Meta{ID: 7, Epoch: 2, Anchor: "anchor", Start: at(1, 7)}, e: api.ErrIntent}
		for _, s := range []api.Stamp{at(0, 0), at(5, 0), at(9, 2), at(9, 3), at(9, 4), last} {
			for _, id := range []int{0, 6, 8, -7} {
				reads(t, c, s, at(9, 3), id, 2, inTheWay)
				reads(t, c, s, at(9, 4), id, 0, inTheWay)
				reads(t, c, s, last, id, 2, inTheWay)
			}
		}
		// With At above the limit it is not in the way.
		reads(t, c, at(8, 0), at(9, 2), 8, 2, seen{v: c.Versions[4], is: true})
		reads(t, c, at(5, 0), at(9, 2), 8, 2, seen{v: api.Version{At: at(8, 0)}, e: api.ErrUnsure})
		reads(t, c, at(1, 0), at(1, 0), 8, 2, nothing)
		reads(t, c, at(6, 0), at(7, 0), 8, 2, nothing)
		// So also where it is not above `at`: the limit alone says.
		reads(t, c, last, at(9, 2), 8, 2, seen{v: c.Versions[4], is: true})
	}
}

func TestWriteOnNoIntent(t *testing.T) { // P8.1
	for _, d := range []struct {
		versions []api.Version
		at, want api.Stamp
	}{
		{nil, at(0, 0), at(0, 0)},
		{nil, at(5, 3), at(5, 3)},
		{nil, last, last},
		{many(), at(0, 0), at(8, 1)},
		{many(), at(8, 0), at(8, 1)},
		{many(), at(8, 1), at(8, 1)},
		{many(), at(8, 2), at(8, 2)},
		{many(), at(9, 0), at(9, 0)},
		{many(), last, last},
		{many(), at(-5, 3), at(8, 1)},
		{many(), at(7, 65536), at(8, 1)},
		{[]api.Version{ver(at(6, 0), "a", 1)}, at(2, 0), at(6, 1)},
		{[]api.Version{gone(at(6, 0), 1)}, at(2, 0), at(6, 1)},
		{[]api.Version{ver(at(6, 65535), "a", 1)}, at(2, 0), at(7, 0)},
		{[]api.Version{ver(at(6, 65535), "a", 1)}, at(7, 0), at(7, 0)},
		{[]api.Version{ver(at(6, 65535), "a", 1)}, at(7, 1), at(7, 1)},
		{[]api.Version{ver(nextToLast, "a", 1)}, at(2, 0), last},
		{[]api.Version{ver(nextToLast, "a", 1)}, last, last},
	} {
		for _, i := range []api.Intent{intent(7, 2, 3, d.at, "new"), goneIntent(7, 0, 0, d.at), intent(0, 0, 0, d.at, "")} {
			laid := i
			laid.At = d.want
			writes(t, closed(d.versions...), i, written{c: open(laid, d.versions...), at: d.want})
		}
	}
}

func TestWriteWithNoStamp(t *testing.T) { // P8.1
	for _, s := range []api.Stamp{at(0, 0), at(5, 0), nextToLast, last, at(-1, 0), at(1<<40+1, 0)} {
		writes(t, closed(ver(last, "a", 1)), intent(7, 0, 1, s, "new"), written{e: api.ErrStamp})
		writes(t, closed(ver(at(1, 0), "a", 1), ver(last, "b", 2)), intent(7, 0, 1, s, "new"), written{e: api.ErrStamp})
	}
	for _, s := range wrong() {
		writes(t, api.Chain{}, intent(7, 0, 1, s, "new"), written{e: api.ErrStamp})
		// A version whose stamp is not right has no next one.
		writes(t, closed(ver(s, "a", 1)), intent(7, 0, 1, last, "new"), written{e: api.ErrStamp})
		c := open(intent(7, 0, 1, at(5, 0), "old"), ver(at(4, 0), "a", 1))
		if compare(s, at(5, 0)) > 0 {
			writes(t, c, intent(7, 0, 2, s, "new"), written{e: api.ErrStamp})
		} else {
			writes(t, c, intent(7, 0, 2, s, "new"), written{c: open(intent(7, 0, 2, at(5, 0), "new"), c.Versions...), at: at(5, 0)})
		}
	}
}

func TestWriteOnItsOwn(t *testing.T) { // P8.1
	v := []api.Version{ver(at(4, 0), "a", 1), gone(at(6, 0), 2)}
	c := open(intent(7, 2, 3, at(9, 0), "old"), v...)
	stays := written{c: c, at: at(9, 0)}
	for _, d := range []struct {
		epoch, seq int
		at         api.Stamp
		want       written
	}{
		{1, 3, at(9, 0), written{e: api.ErrOld}},
		{1, 4, at(12, 0), written{e: api.ErrOld}},
		{0, 9, at(1, 0), written{e: api.ErrOld}},
		{-1, 9, at(1, 0), written{e: api.ErrOld}},
		{2, 3, at(9, 0), stays},
		{2, 3, at(1, 0), stays},
		{2, 3, at(12, 0), stays},
		{2, 2, at(12, 0), stays},
		{2, 0, at(1, 0), stays},
		{2, -1, at(12, 0), stays},
		{2, 3, at(-1, 0), stays},
		{2, 4, at(1, 0), written{c: open(intent(7, 2, 4, at(9, 0), "new"), v...), at: at(9, 0)}},
		{2, 4, at(9, 0), written{c: open(intent(7, 2, 4, at(9, 0), "new"), v...), at: at(9, 0)}},
		{2, 4, at(9, 1), written{c: open(intent(7, 2, 4, at(9, 1), "new"), v...), at: at(9, 1)}},
		{2, 9, at(12, 0), written{c: open(intent(7, 2, 9, at(12, 0), "new"), v...), at: at(12, 0)}},
		{3, 0, at(1, 0), written{c: open(intent(7, 3, 0, at(9, 0), "new"), v...), at: at(9, 0)}},
		{3, 3, at(8, 0), written{c: open(intent(7, 3, 3, at(9, 0), "new"), v...), at: at(9, 0)}},
		{3, 4, at(9, 1), written{c: open(intent(7, 3, 4, at(9, 1), "new"), v...), at: at(9, 1)}},
		{9, 0, last, written{c: open(intent(7, 9, 0, last, "new"), v...), at: last}},
	} {
		writes(t, c, intent(7, d.epoch, d.seq, d.at, "new"), d.want)
	}
	// The place is taken wholly: all that is told of the transaction is the new intent's.
	g := goneIntent(7, 3, 1, at(11, 0))
	g.Txn.Anchor, g.Txn.Start = "other", at(3, 3)
	writes(t, c, g, written{c: open(g, v...), at: at(11, 0)})
	// So also on an intent that is Gone, and where there is no version.
	writes(t, open(goneIntent(7, 0, 1, at(9, 0))), intent(7, 0, 2, at(5, 0), "new"), written{c: open(intent(7, 0, 2, at(9, 0), "new")), at: at(9, 0)})
}

func TestWriteAgainstAChainThatIsNotRight(t *testing.T) { // P8.1: the intent's own At may be below the last version's next
	c := open(intent(7, 0, 1, at(5, 0), "old"), ver(at(6, 0), "a", 1))
	writes(t, c, intent(7, 0, 2, at(2, 0), "new"), written{c: open(intent(7, 0, 2, at(6, 1), "new"), c.Versions...), at: at(6, 1)})
	writes(t, c, intent(7, 1, 0, at(8, 0), "new"), written{c: open(intent(7, 1, 0, at(8, 0), "new"), c.Versions...), at: at(8, 0)})
	// What is told of an intent that is not open is nobody's.
	shut := api.Chain{Intent: intent(8, 5, 5, at(9, 0), "shut")}
	writes(t, shut, intent(7, 0, 1, at(2, 0), "new"), written{c: open(intent(7, 0, 1, at(2, 0), "new")), at: at(2, 0)})
	shut.Intent.Txn.ID = 7
	writes(t, shut, intent(7, 0, 1, at(2, 0), "new"), written{c: open(intent(7, 0, 1, at(2, 0), "new")), at: at(2, 0)})
}

func TestWriteWhereAnotherOneIs(t *testing.T) { // P8.1
	inTheWay := written{txn: api.Meta{ID: 7, Epoch: 2, Anchor: "anchor", Start: at(1, 7)}, e: api.ErrIntent}
	for _, c := range []api.Chain{
		open(intent(7, 2, 1, at(9, 0), "new")),
		open(goneIntent(7, 2, 1, at(9, 0)), many()...),
		// It comes ahead of a version By the one that writes, and of what has no next stamp.
		open(intent(7, 2, 1, at(9, 0), "new"), ver(at(2, 0), "a", 8), ver(at(3, 0), "b", 0)),
		open(intent(7, 2, 1, last, "new"), ver(last, "a", 1)),
	} {
		for _, id := range []int{0, 6, 8, -7} {
			for _, s := range []api.Stamp{at(1, 0), at(8, 65535), at(9, 0), at(12, 0), at(-1, 0)} {
				for _, epoch := range []int{1, 2, 3} {
					writes(t, c, intent(id, epoch, 1, s, "more"), inTheWay)
				}
			}
		}
	}
}

func TestWriteOfWhatIsDone(t *testing.T) { // P8.1
	done := written{e: api.ErrDone}
	for _, id := range []int{1, 2, 3, 4, 5} {
		for _, s := range []api.Stamp{at(1, 0), at(9, 0), at(-1, 0)} {
			writes(t, closed(many()...), intent(id, 0, 1, s, "new"), done)
			writes(t, closed(many()...), goneIntent(id, 9, 9, s), done)
		}
	}
	writes(t, closed(ver(at(1, 0), "a", 0)), intent(0, 0, 1, at(2, 0), "new"), done)
	writes(t, closed(ver(last, "a", 1)), intent(1, 0, 1, at(2, 0), "new"), done)
	// It comes ahead of what its own intent says.
	for epoch := range 5 {
		writes(t, open(intent(3, 2, 3, at(9, 0), "old"), many()...), intent(3, epoch, 3, at(12, 0), "new"), done)
	}
	laid := intent(6, 0, 1, at(8, 1), "new")
	writes(t, closed(many()...), intent(6, 0, 1, at(1, 0), "new"), written{c: open(laid, many()...), at: at(8, 1)})
}

func TestResolveToCommit(t *testing.T) { // P8.1
	v := []api.Version{ver(at(4, 0), "a", 1), gone(at(6, 0), 2)}
	none := []api.Version{}
	for _, d := range []struct {
		versions []api.Version
		at       api.Stamp
		want     api.Errno
	}{
		{v, at(9, 0), api.OK},
		{v, at(9, 1), api.OK},
		{v, at(8, 65535), api.OK}, // below the intent's own stamp
		{v, at(6, 1), api.OK},
		{v, last, api.OK},
		{v, at(6, 0), api.ErrOld},
		{v, at(5, 65535), api.ErrOld},
		{v, at(4, 0), api.ErrOld},
		{v, at(0, 0), api.ErrOld},
		{v, at(9, 65536), api.ErrOld},
		{v, at(9, -1), api.ErrOld},
		{v, at(1<<40+1, 0), api.ErrOld},
		{v, at(math.MaxInt, math.MaxInt), api.ErrOld},
		{v, at(-1, 0), api.ErrOld},
		{none, at(0, 0), api.OK},
		{none, at(9, 0), api.OK},
		{none, last, api.OK},
		{none, at(-1, 0), api.ErrOld},
		{none, at(0, -1), api.ErrOld},
		{none, at(0, 65536), api.ErrOld},
		{none, at(1<<40+1, 0), api.ErrOld},
	} {
		for _, i := range []api.Intent{intent(7, 2, 3, at(9, 0), "new"), goneIntent(7, 2, 3, at(9, 0))} {
			want := resolved{e: d.want}
			if d.want == api.OK {
				want.c = closed(append(slices.Clone(d.versions), api.Version{At: d.at, Value: i.Value, Gone: i.Gone, By: 7})...)
			}
			resolves(t, open(i, d.versions...), 7, 2, true, d.at, want)
		}
	}
}

func TestResolveAtAnotherEpoch(t *testing.T) { // P8.1
	for _, v := range [][]api.Version{nil, {ver(at(6, 0), "a", 1)}, many()} {
		c := open(intent(7, 2, 3, at(9, 0), "new"), v...)
		for _, s := range []api.Stamp{at(0, 0), at(6, 0), at(8, 0), at(9, 0), at(12, 0), at(-1, 0), at(9, 65536)} {
			// To commit: it is dropped, whatever the stamp is.
			for _, epoch := range []int{1, 3, 0, 9, -1} {
				resolves(t, c, 7, epoch, true, s, resolved{c: closed(v...)})
			}
			// Not to commit: so too, if its epoch is not above this one.
			for _, epoch := range []int{2, 3, 9, math.MaxInt} {
				resolves(t, c, 7, epoch, false, s, resolved{c: closed(v...)})
			}
			for _, epoch := range []int{1, 0, -1, math.MinInt} {
				resolves(t, c, 7, epoch, false, s, resolved{c: c})
			}
		}
	}
}

func TestResolveOfNoSuchIntent(t *testing.T) { // P8.1
	for _, c := range []api.Chain{
		{},
		closed(many()...),
		closed(ver(last, "a", 1)),
		open(intent(8, 2, 3, at(9, 0), "new")),
		open(goneIntent(8, 2, 3, at(9, 0)), many()...),
		open(intent(0, 2, 3, at(9, 0), "new"), ver(at(1, 0), "a", 7)),
		{Intent: intent(7, 2, 3, at(9, 0), "shut"), Versions: many()},
	} {
		for _, epoch := range []int{0, 1, 2, 3} {
			for _, s := range []api.Stamp{at(0, 0), at(6, 0), at(12, 0), at(-1, 0), at(9, 65536)} {
				resolves(t, c, 7, epoch, true, s, resolved{c: c})
				resolves(t, c, 7, epoch, false, s, resolved{c: c})
			}
		}
	}
}

func TestRefresh(t *testing.T) { // P8.1
	retry := refreshed{e: api.ErrRetry}
	for _, d := range []struct {
		from, to api.Stamp
		want     refreshed
	}{
		{at(4, 1), at(5, 65535), refreshed{}}, // at from
		{at(4, 0), at(4, 1), retry},           // just above it, and at to
		{at(4, 0), at(5, 0), retry},
		{at(5, 0), at(6, 0), retry}, // at to, and Gone
		{at(4, 1), at(6, 0), retry},
		{at(6, 0), at(7, 65535), refreshed{}}, // just above to
		{at(6, 0), at(8, 0), retry},
		{at(8, 0), last, refreshed{}},
		{at(7, 65535), last, retry},
		{at(0, 0), at(1, 65535), refreshed{}},
		{at(0, 0), at(2, 0), retry},
		{at(0, 0), last, retry},
		{at(4, 0), at(4, 0), refreshed{}},
		{at(4, 1), at(4, 0), refreshed{}},
		{at(9, 0), at(1, 0), refreshed{}},
		{last, at(0, 0), refreshed{}},
		{at(-1, 0), at(1, 0), refreshed{}},
		{at(-1, 0), at(math.MaxInt, 0), retry},
		{at(math.MaxInt, 0), at(math.MinInt, 0), refreshed{}},
	} {
		for _, id := range []int{0, 5, 7} {
			refreshes(t, closed(many()...), id, d.from, d.to, d.want)
			refreshes(t, api.Chain{}, id, d.from, d.to, refreshed{})
		}
	}
	refreshes(t, closed(ver(at(0, 0), "none", 1)), 7, at(0, 0), last, refreshed{})
}

func TestRefreshAndIntents(t *testing.T) { // P8.1
	inTheWay := refreshed{txn: api.Meta{ID: 7, Epoch: 2, Anchor: "anchor", Start: at(1, 7)}, e: api.ErrIntent}
	for _, i := range []api.Intent{intent(7, 2, 1, at(9, 3), "new"), goneIntent(7, 2, 1, at(9, 3))} {
		c := open(i, many()...)
		for _, d := range []struct {
			from, to    api.Stamp
			own, others refreshed
		}{
			{at(8, 0), at(9, 2), refreshed{}, refreshed{}},
			{at(8, 0), at(9, 3), refreshed{}, inTheWay},
			{at(8, 0), at(9, 4), refreshed{}, inTheWay},
			{at(8, 0), last, refreshed{}, inTheWay},
			{at(9, 3), at(9, 3), refreshed{}, inTheWay},
			{at(9, 4), at(9, 5), refreshed{}, inTheWay}, // where it is below from too
			{last, at(9, 3), refreshed{}, inTheWay},
			{last, at(9, 2), refreshed{}, refreshed{}},
			{at(7, 0), at(9, 2), refreshed{e: api.ErrRetry}, refreshed{e: api.ErrRetry}},
			{at(7, 0), at(9, 3), refreshed{e: api.ErrRetry}, inTheWay},
			{at(0, 0), last, refreshed{e: api.ErrRetry}, inTheWay},
		} {
			refreshes(t, c, 7, d.from, d.to, d.own)
			for _, id := range []int{0, 5, 8, -7} {
				refreshes(t, c, id, d.from, d.to, d.others)
			}
		}
	}
	shut := api.Chain{Intent: intent(7, 2, 1, at(3, 0), "shut")}
	refreshes(t, shut, 8, at(0, 0), last, refreshed{})
}

func TestQuery(t *testing.T) { // P8.1
	c := open(intent(7, 2, 3, at(9, 3), "new"), many()...)
	for _, d := range []struct {
		id, epoch, seq int
		at             api.Stamp
		want           bool
	}{
		{7, 2, 3, at(9, 3), true},
		{7, 2, 2, at(9, 3), true},
		{7, 2, 0, at(9, 3), true},
		{7, 2, -1, at(9, 3), true},
		{7, 2, 3, at(9, 4), true},
		{7, 2, 3, last, true},
		{7, 2, 3, at(math.MaxInt, 0), true},
		{6, 2, 3, at(9, 3), false},
		{8, 2, 3, at(9, 3), false},
		{0, 2, 3, at(9, 3), false},
		{5, 2, 3, at(9, 3), false},
		{7, 1, 3, at(9, 3), false},
		{7, 3, 3, at(9, 3), false},
		{7, 2, 4, at(9, 3), false},
		{7, 2, math.MaxInt, at(9, 3), false},
		{7, 2, 3, at(9, 2), false},
		{7, 2, 3, at(8, 9), false},
		{7, 2, 3, at(0, 0), false},
		{7, 2, 3, at(-1, 0), false},
	} {
		for _, gone := range []bool{false, true} {
			c.Intent.Gone = gone
			if got := version.Query(c, d.id, d.epoch, d.seq, d.at); got != d.want {
				t.Errorf("Query(%v, %v): %v", c, d, got)
			}
			shut := api.Chain{Versions: c.Versions, Intent: c.Intent}
			if version.Query(shut, d.id, d.epoch, d.seq, d.at) {
				t.Errorf("Query(%v, %v)", shut, d)
			}
		}
	}
	if version.Query(api.Chain{}, 0, 0, 0, at(0, 0)) || version.Query(closed(many()...), 5, 0, 0, last) {
		t.Error("no intent is open")
	}
	if !version.Query(open(api.Intent{}), 0, 0, 0, at(0, 0)) {
		t.Error("of the number 0")
	}
}

// differing are chains no two of which are alike.
func differing() []api.Chain {
	i := intent(7, 2, 3, at(9, 0), "new")
	out := []api.Chain{{}, {Open: true}, open(i), open(i, many()...), closed(many()...), {Versions: many(), Intent: i}}
	for n := range many() {
		out = append(out, closed(many()[:n+1]...), closed(many()[n+1:]...), open(i, many()[:n]...))
		for _, change := range []func(*api.Version){
			func(v *api.Version) { v.At.Wall += 100 },
			func(v *api.Version) { v.At.Logical += 100 },
			func(v *api.Version) { v.Value += "x" },
			func(v *api.Version) { v.Gone = !v.Gone },
			func(v *api.Version) { v.By += 100 },
		} {
			c := closed(many()...)
			change(&c.Versions[n])
			out = append(out, c)
		}
	}
	for _, change := range []func(*api.Intent){
		func(i *api.Intent) { i.Txn.ID++ },
		func(i *api.Intent) { i.Txn.Epoch++ },
		func(i *api.Intent) { i.Txn.Anchor += "x" },
		func(i *api.Intent) { i.Txn.Start.Wall++ },
		func(i *api.Intent) { i.Txn.Start.Logical++ },
		func(i *api.Intent) { i.Seq++ },
		func(i *api.Intent) { i.At.Wall++ },
		func(i *api.Intent) { i.At.Logical++ },
		func(i *api.Intent) { i.Value += "x" },
		func(i *api.Intent) { i.Gone = !i.Gone },
	} {
		d, empty := i, api.Intent{}
		change(&d)
		change(&empty)
		out = append(out, open(d, many()...), api.Chain{Versions: many(), Intent: d}, open(empty), api.Chain{Intent: empty})
	}
	swapped := many()
	swapped[0], swapped[1] = swapped[1], swapped[0]
	return append(out, closed(swapped...))
}

func TestSame(t *testing.T) { // P8.1
	all := differing()
	var kept []api.Chain // the list names some chains twice
	for _, c := range all {
		if !slices.ContainsFunc(kept, func(d api.Chain) bool { return alike(c, d) }) {
			kept = append(kept, c)
		}
	}
	for a, c := range kept {
		for b, d := range kept {
			d.Versions = slices.Clone(d.Versions)
			if got := version.Same(c, d); got != (a == b) {
				t.Errorf("Same(%v, %v): %v", c, d, got)
			}
		}
	}
	if len(kept) < 60 {
		t.Errorf("%d chains", len(kept))
	}
	if !version.Same(api.Chain{}, api.Chain{Versions: []api.Version{}}) || !version.Same(api.Chain{Versions: []api.Version{}}, api.Chain{}) {
		t.Error("rule 6: a list without elements may be nil or not")
	}
	// What lies behind a list's length is not of the chain.
	if v := many(); !version.Same(closed(v[:2]...), closed(slices.Clone(v[:2])...)) {
		t.Error("behind the length")
	}
}

func TestErrorsAreTheirOwn(t *testing.T) { // rule 2: beside an error each other result is its zero value
	if got := write(closed(ver(last, "a", 1)), intent(7, 0, 1, last, "new")); got.c.Versions != nil || got.c.Open {
		t.Errorf("%v", got)
	}
	if got := resolve(open(intent(7, 0, 1, at(9, 0), "new"), many()...), 7, 0, true, at(1, 0)); len(got.c.Versions) != 0 || got.c.Open || got.c.Intent != (api.Intent{}) {
		t.Errorf("%v", got)
	}
}

// compare is the order of chapter 3, not by package stamp.
func compare(a, b api.Stamp) int {
	switch {
	case a.Wall < b.Wall, a.Wall == b.Wall && a.Logical < b.Logical:
		return -1
	case a == b:
		return 0
	}
	return 1
}

func isRight(s api.Stamp) bool {
	return s.Wall >= 0 && s.Wall <= 1<<40 && s.Logical >= 0 && s.Logical <= 65535
}

// wordsRight to wordsRefresh are the chapter's words, by going through all versions.
func wordsRight(c api.Chain) bool {
	least, some := api.Stamp{}, false
	stamps := []api.Stamp{}
	for _, v := range c.Versions {
		stamps = append(stamps, v.At)
	}
	if c.Open {
		stamps = append(stamps, c.Intent.At)
	}
	for _, s := range stamps {
		if !isRight(s) || some && compare(s, least) <= 0 {
			return false
		}
		least, some = s, true
	}
	return c.Open || c.Intent == api.Intent{}
}

func wordsRead(c api.Chain, s, limit api.Stamp, id, epoch int) seen {
	i := c.Intent
	if c.Open && i.Txn.ID == id && i.Txn.Epoch == epoch {
		if i.Gone {
			return seen{}
		}
		return seen{v: api.Version{At: i.At, Value: i.Value, By: id}, is: true}
	}
	if c.Open && i.Txn.ID != id && compare(i.At, limit) <= 0 {
		return seen{txn: i.Txn, e: api.ErrIntent}
	}
	var below, above api.Version
	isBelow, isAbove := false, false
	for _, v := range c.Versions {
		if compare(v.At, s) <= 0 {
			below, isBelow = v, true
		} else if compare(v.At, limit) <= 0 {
			above, isAbove = v, true
		}
	}
	switch {
	case isAbove:
		return seen{v: api.Version{At: above.At}, e: api.ErrUnsure}
	case !isBelow, below.Gone:
		return seen{}
	}
	return seen{v: below, is: true}
}

func wordsWrite(c api.Chain, i api.Intent) written {
	own := c.Intent
	if c.Open && own.Txn.ID != i.Txn.ID {
		return written{txn: own.Txn, e: api.ErrIntent}
	}
	for _, v := range c.Versions {
		if v.By == i.Txn.ID {
			return written{e: api.ErrDone}
		}
	}
	if c.Open && own.Txn.Epoch > i.Txn.Epoch {
		return written{e: api.ErrOld}
	}
	if c.Open && own.Txn.Epoch == i.Txn.Epoch && own.Seq >= i.Seq {
		return written{c: c, at: own.At}
	}
	least := []api.Stamp{i.At}
	if n := len(c.Versions); n > 0 {
		next := c.Versions[n-1].At
		if !isRight(next) || next == last {
			return written{e: api.ErrStamp}
		}
		if next.Logical++; next.Logical > 65535 {
			next = at(next.Wall+1, 0)
		}
		least = append(least, next)
	}
	if c.Open {
		least = append(least, own.At)
	}
	i.At = slices.MaxFunc(least, compare)
	if !isRight(i.At) {
		return written{e: api.ErrStamp}
	}
	return written{c: api.Chain{Versions: c.Versions, Open: true, Intent: i}, at: i.At}
}

func wordsResolve(c api.Chain, id, epoch int, commit bool, s api.Stamp) resolved {
	i := c.Intent
	dropped := resolved{c: api.Chain{Versions: slices.Clone(c.Versions)}}
	switch {
	case !c.Open || i.Txn.ID != id:
		return resolved{c: c}
	case commit && i.Txn.Epoch != epoch:
		return dropped
	case commit:
		if n := len(c.Versions); !isRight(s) || n > 0 && compare(s, c.Versions[n-1].At) <= 0 {
			return resolved{e: api.ErrOld}
		}
		dropped.c.Versions = append(dropped.c.Versions, api.Version{At: s, Value: i.Value, Gone: i.Gone, By: id})
		return dropped
	case i.Txn.Epoch > epoch:
		return resolved{c: c}
	}
	return dropped
}

func wordsRefresh(c api.Chain, id int, from, to api.Stamp) refreshed {
	if c.Open && c.Intent.Txn.ID != id && compare(c.Intent.At, to) <= 0 {
		return refreshed{txn: c.Intent.Txn, e: api.ErrIntent}
	}
	for _, v := range c.Versions {
		if compare(v.At, from) > 0 && compare(v.At, to) <= 0 {
			return refreshed{e: api.ErrRetry}
		}
	}
	return refreshed{}
}

func wordsQuery(c api.Chain, id, epoch, seq int, s api.Stamp) bool {
	i := c.Intent
	return c.Open && i.Txn.ID == id && i.Txn.Epoch == epoch && i.Seq >= seq && compare(i.At, s) <= 0
}

// steps are five stamps behind one another, those at the edges of a tick among them.
func steps() []api.Stamp {
	return []api.Stamp{at(3, 65534), at(3, 65535), at(4, 0), at(4, 1), at(5, 0)}
}

// smallChains are all right chains with up to three versions at four of the steps, and an intent or none.
func smallChains() []api.Chain {
	var lists [][]api.Version
	var more func(vs []api.Version, from int)
	more = func(vs []api.Version, from int) {
		lists = append(lists, vs)
		for n := from; n < 4 && len(vs) < 3; n++ {
			for by := 1; by <= 2; by++ {
				s := steps()[n]
				more(append(slices.Clip(vs), ver(s, fmt.Sprint("v", n), by)), n+1)
				if by == 1 {
					more(append(slices.Clip(vs), gone(s, by)), n+1)
				}
			}
		}
	}
	more(nil, 0)
	var out []api.Chain
	for _, vs := range lists {
		out = append(out, closed(vs...))
		for _, s := range steps() {
			for epoch := 1; epoch <= 2; epoch++ {
				for _, c := range []api.Chain{open(intent(1, epoch, 2, s, "new"), vs...), open(goneIntent(3, epoch, 2, s), vs...)} {
					if wordsRight(c) {
						out = append(out, c)
					}
				}
			}
		}
	}
	return out
}

// each hands each of the calls, at all arguments of a small choice, to whoever holds its answer against something.
type each struct {
	read    func(c api.Chain, s, limit api.Stamp, id, epoch int)
	write   func(c api.Chain, i api.Intent)
	resolve func(c api.Chain, id, epoch int, commit bool, s api.Stamp)
	refresh func(c api.Chain, id int, from, to api.Stamp)
	query   func(c api.Chain, id, epoch, seq int, s api.Stamp)
}

// of goes through the arguments for one chain.
func (e each) of(c api.Chain, stamps []api.Stamp) {
	for _, id := range []int{1, 2, 3, 4} {
		for _, s := range stamps {
			for _, to := range stamps {
				e.read(c, s, to, id, 1)
				e.refresh(c, id, s, to)
			}
			for epoch := range 4 {
				e.read(c, s, s, id, epoch)
				e.resolve(c, id, epoch, true, s)
				e.resolve(c, id, epoch, false, s)
				for seq := 1; seq <= 3; seq++ {
					e.query(c, id, epoch, seq, s)
					i := intent(id, epoch, seq, s, "next")
					i.Gone = seq == 2
					e.write(c, i)
				}
			}
		}
	}
}

func TestAllSmallChains(t *testing.T) { // P8.1, P8.2: all calls, held against the chapter's words; what comes of a right chain is one
	comes := func(c api.Chain) {
		if !wordsRight(c) || !version.Right(c) {
			t.Fatalf("P8.2: %v came of a right chain", c)
		}
	}
	against := each{
		read: func(c api.Chain, s, limit api.Stamp, id, epoch int) {
			if got, want := read(c, s, limit, id, epoch), wordsRead(c, s, limit, id, epoch); got != want {
				t.Fatalf("Read(%v, %v, %v, %d, %d): %v, not %v", c, s, limit, id, epoch, got, want)
			}
		},
		write: func(c api.Chain, i api.Intent) {
			got, want := write(c, i), wordsWrite(c, i)
			if !got.equal(want) {
				t.Fatalf("Write(%v, %v): %v, not %v", c, i, got, want)
			}
			comes(got.c)
		},
		resolve: func(c api.Chain, id, epoch int, commit bool, s api.Stamp) {
			got, want := resolve(c, id, epoch, commit, s), wordsResolve(c, id, epoch, commit, s)
			if !got.equal(want) {
				t.Fatalf("Resolve(%v, %d, %d, %v, %v): %v, not %v", c, id, epoch, commit, s, got, want)
			}
			comes(got.c)
		},
		refresh: func(c api.Chain, id int, from, to api.Stamp) {
			if got, want := refresh(c, id, from, to), wordsRefresh(c, id, from, to); got != want {
				t.Fatalf("Refresh(%v, %d, %v, %v): %v, not %v", c, id, from, to, got, want)
			}
		},
		query: func(c api.Chain, id, epoch, seq int, s api.Stamp) {
			if got, want := version.Query(c, id, epoch, seq, s), wordsQuery(c, id, epoch, seq, s); got != want {
				t.Fatalf("Query(%v, %d, %d, %d, %v): %v, not %v", c, id, epoch, seq, s, got, want)
			}
		},
	}
	stamps := append(steps(), at(0, 0), at(5, 1), at(4, 65536))
	for _, c := range smallChains() {
		if !version.Right(c) {
			t.Fatalf("Right(%v): false", c)
		}
		against.of(c, stamps)
	}
}

// long is a chain of so many versions, at 1.0, 3.0, 5.0 and so on, each third one Gone.
func long(n int) []api.Version {
	var out []api.Version
	for k := range n {
		v := ver(at(2*k+1, 0), fmt.Sprint(k), k+1)
		if k%3 == 2 {
			v = gone(v.At, v.By)
		}
		out = append(out, v)
	}
	return out
}

func TestLongChains(t *testing.T) { // P8.1: the search, for each number of versions, at, below and above each of them
	for n := range 34 {
		c := closed(long(n)...)
		for from := range 2*n + 2 {
			for to := range 2*n + 2 {
				s, limit := at(from, 0), at(to, 0)
				reads(t, c, s, limit, 0, 0, wordsRead(c, s, limit, 0, 0))
				refreshes(t, c, 0, s, limit, wordsRefresh(c, 0, s, limit))
			}
		}
		for id := range n + 2 {
			i := intent(id, 0, 1, at(n, 0), "new")
			writes(t, c, i, wordsWrite(c, i))
		}
	}
}

// asked is what was read, by nobody who writes.
type asked struct {
	at, limit api.Stamp
}

// script is a long one of Write and Resolve from an empty chain on, and what was read on the way.
type script struct {
	t    *testing.T
	r    *rand.Rand
	c    api.Chain
	kept map[asked]seen
	near int // the Wall that stamps lie near
	ids  int
}

// some is a stamp near the chain's end, or, here and there, anywhere, right or not.
func (s *script) some() api.Stamp {
	switch s.r.IntN(40) {
	case 0:
		return wrong()[s.r.IntN(len(wrong()))]
	case 1:
		return at(0, 0)
	}
	return at(max(0, s.near-3+s.r.IntN(6)), []int{0, 1, 2, 65534, 65535}[s.r.IntN(5)])
}

// step does one call, and makes sure of the chain.
func (s *script) step() {
	id, epoch := s.ids-s.r.IntN(3), s.r.IntN(3)
	if s.c.Open && s.r.IntN(2) == 0 {
		id, epoch = s.c.Intent.Txn.ID, s.c.Intent.Txn.Epoch
	}
	before := api.Chain{Versions: slices.Clone(s.c.Versions), Open: s.c.Open, Intent: s.c.Intent}
	var got api.Chain
	var e api.Errno
	if s.r.IntN(2) == 0 {
		i := intent(id, epoch, s.r.IntN(4), s.some(), fmt.Sprint(s.r.IntN(100)))
		i.Gone = s.r.IntN(4) == 0
		w := write(s.c, i)
		if want := wordsWrite(before, i); !w.equal(want) {
			s.t.Fatalf("Write(%v, %v): %v, not %v", before, i, w, want)
		}
		got, e = w.c, w.e
		if e == api.OK && !alike(got, before) {
			s.forget(w.at)
		}
	} else {
		commit, when := s.r.IntN(2) == 0, s.some()
		r := resolve(s.c, id, epoch, commit, when)
		if want := wordsResolve(before, id, epoch, commit, when); !r.equal(want) {
			s.t.Fatalf("Resolve(%v, %d, %d, %v, %v): %v, not %v", before, id, epoch, commit, when, r, want)
		}
		got, e = r.c, r.e
		if len(got.Versions) > len(before.Versions) {
			s.forget(when)
			s.near = max(s.near, when.Wall)
			s.ids++
		}
	}
	if !alike(s.c, before) {
		s.t.Fatalf("%v was changed to %v", before, s.c)
	}
	if e == api.OK {
		s.c = got
	}
	if !version.Right(s.c) || !wordsRight(s.c) {
		s.t.Fatalf("P8.2: %v came of %v", s.c, before)
	}
}

// forget lets go what was read up to where somebody writes now.
func (s *script) forget(w api.Stamp) {
	for a := range s.kept {
		if compare(w, a.at) <= 0 || compare(w, a.limit) <= 0 {
			delete(s.kept, a)
		}
	}
}

// ask asks for what was read ahead once more, and for what is read now near the chain's end.
func (s *script) ask() {
	for a, want := range s.kept {
		if got := read(s.c, a.at, a.limit, 0, 0); got != want {
			s.t.Fatalf("P8.3: Read(%v, %v): %v, and %v before; nobody wrote there. The chain is %v", a.at, a.limit, got, want, s.c)
		}
	}
	for range 4 {
		a := asked{s.some(), s.some()}
		if got := read(s.c, a.at, a.limit, 0, 0); got.e != api.ErrIntent {
			s.kept[a] = got
		}
	}
}

func TestLongScripts(t *testing.T) { // P8.1, P8.2, P8.3
	laid, kept := 0, 0
	for seed := range uint64(60) {
		s := &script{t: t, r: rand.New(rand.NewPCG(seed, 8)), kept: map[asked]seen{}, near: 3, ids: 3}
		for range 400 {
			s.step()
			s.ask()
		}
		laid += len(s.c.Versions)
		kept += len(s.kept)
	}
	// Scripts that lay nothing, or keep nothing, would say nothing.
	if laid < 600 || kept < 6000 {
		t.Errorf("%d versions, %d reads", laid, kept)
	}
}

func TestWhatWasStays(t *testing.T) { // P8.3: of all small chains what is read below a Write's stamp, or a version's that comes, is as it was
	stamps := append(steps(), at(0, 0), at(5, 1))
	stays := func(before, now api.Chain, w api.Stamp) {
		for _, s := range stamps {
			for _, limit := range stamps {
				was := read(before, s, limit, 0, 0)
				if was.e == api.ErrIntent || compare(w, s) <= 0 || compare(w, limit) <= 0 {
					continue
				}
				if got := read(now, s, limit, 0, 0); got != was {
					t.Fatalf("Read(%v, %v): %v, and %v before, of %v, now %v, written at %v", s, limit, got, was, before, now, w)
				}
			}
		}
	}
	for _, c := range smallChains() {
		for _, s := range stamps {
			for _, id := range []int{1, 3, 4} {
				if w := write(c, intent(id, 2, 3, s, "next")); w.e == api.OK {
					stays(c, w.c, w.at)
				}
				if r := resolve(c, id, 2, true, s); r.e == api.OK && len(r.c.Versions) > len(c.Versions) {
					stays(c, r.c, s)
				} else if r.e == api.OK {
					stays(c, r.c, at(math.MaxInt, 0))
				}
				stays(c, resolve(c, id, 2, false, s).c, at(math.MaxInt, 0))
			}
		}
	}
}

// handing are calls that hand out a chain: by a new intent, one in its place, none, a version more, none dropped.
func handing() []func(api.Chain) (api.Chain, api.Errno) {
	lay := func(i api.Intent) func(api.Chain) (api.Chain, api.Errno) {
		return func(c api.Chain) (api.Chain, api.Errno) {
			d, _, _, e := version.Write(c, i)
			return d, e
		}
	}
	decide := func(id, epoch int, commit bool) func(api.Chain) (api.Chain, api.Errno) {
		return func(c api.Chain) (api.Chain, api.Errno) {
			return version.Resolve(c, id, epoch, commit, at(30, 0))
		}
	}
	return []func(api.Chain) (api.Chain, api.Errno){
		lay(intent(7, 2, 4, at(12, 0), "new")), lay(intent(7, 2, 1, at(12, 0), "new")), lay(intent(7, 9, 0, at(12, 0), "new")),
		lay(intent(8, 2, 4, at(12, 0), "new")), lay(intent(1, 2, 4, at(12, 0), "new")), lay(intent(7, 0, 0, last, "new")), lay(intent(7, 2, 4, at(-1, 0), "new")),
		decide(7, 2, true), decide(7, 1, true), decide(7, 2, false), decide(7, 1, false), decide(8, 2, true), decide(8, 2, false),
	}
}

// scrawl is what is written over, and behind, a list.
var scrawl = api.Version{At: at(77, 77), Value: "scrawl", By: 77}

func TestNoMemoryIsShared(t *testing.T) { // rule 4
	i := intent(7, 2, 3, at(20, 0), "old")
	for n := range 6 {
		for _, spare := range []int{0, 1, 5} {
			for _, ahead := range []api.Chain{closed(long(n)...), open(i, long(n)...)} {
				for k, call := range handing() {
					// Behind the list's length, and ahead of it, lies what is somebody else's.
					memory := slices.Repeat([]api.Version{scrawl}, 1+n+spare)
					copy(memory[1:], ahead.Versions)
					c := ahead
					c.Versions = memory[1 : 1+n]
					got, e := call(c)
					if !alike(c, ahead) || memory[0] != scrawl || slices.ContainsFunc(memory[1+n:], func(v api.Version) bool { return v != scrawl }) {
						t.Fatalf("call %d: %v was handed in, and is %v", k, ahead, memory)
					}
					kept := got
					kept.Versions = slices.Clone(got.Versions)
					for m := range memory {
						memory[m] = ver(at(88, 88), "over", 88)
					}
					if !alike(got, kept) {
						t.Fatalf("call %d, %v: what was handed out changed with what was handed in: %v, not %v", k, e, got, kept)
					}
					got.Versions = got.Versions[:cap(got.Versions)]
					for m := range got.Versions {
						got.Versions[m] = scrawl
					}
					if slices.Contains(memory, scrawl) {
						t.Fatalf("call %d: what was handed in changed with what was handed out", k)
					}
				}
			}
		}
	}
}

func TestTwoAnswersShareNothing(t *testing.T) { // rule 4
	c := open(intent(7, 2, 3, at(20, 0), "old"), append(make([]api.Version, 0, 9), long(4)...)...)
	for k, call := range handing() {
		a, _ := call(c)
		b, _ := call(c)
		if !alike(a, b) {
			t.Fatalf("P2: call %d: %v, and %v", k, a, b)
		}
		for m := range a.Versions[:cap(a.Versions)] {
			a.Versions[:cap(a.Versions)][m] = scrawl
		}
		if slices.Contains(b.Versions[:cap(b.Versions)], scrawl) || slices.Contains(c.Versions, scrawl) {
			t.Fatalf("call %d: two answers share memory", k)
		}
	}
}

func TestNothingIsChangedByBeingAsked(t *testing.T) { // rule 4, P2
	for _, c := range smallChains()[:200] {
		was := api.Chain{Versions: slices.Clone(c.Versions), Open: c.Open, Intent: c.Intent}
		same := func(again bool) {
			if !again || !alike(c, was) {
				t.Fatalf("%v, was %v", c, was)
			}
		}
		each{
			read: func(c api.Chain, s, limit api.Stamp, id, epoch int) {
				same(read(c, s, limit, id, epoch) == read(c, s, limit, id, epoch))
			},
			write: func(c api.Chain, i api.Intent) { same(write(c, i).equal(write(c, i))) },
			resolve: func(c api.Chain, id, epoch int, commit bool, s api.Stamp) {
				same(resolve(c, id, epoch, commit, s).equal(resolve(c, id, epoch, commit, s)))
			},
			refresh: func(c api.Chain, id int, from, to api.Stamp) {
				same(refresh(c, id, from, to) == refresh(c, id, from, to))
			},
			query: func(c api.Chain, id, epoch, seq int, s api.Stamp) {
				same(version.Query(c, id, epoch, seq, s) == version.Query(c, id, epoch, seq, s))
			},
		}.of(c, steps())
		same(version.Right(c) == version.Right(c) && version.Same(c, c))
	}
}

// anyChain is one of any fields, right here and there.
func anyChain(r *rand.Rand) api.Chain {
	numbers := []int{math.MinInt, -1, 0, 1, 2, 3, 65535, 65536, 1 << 40, 1<<40 + 1, math.MaxInt}
	number := func() int { return numbers[r.IntN(len(numbers))] }
	some := func() api.Stamp { return at(number(), number()) }
	c := api.Chain{Open: r.IntN(3) > 0}
	for range r.IntN(6) {
		c.Versions = append(c.Versions, api.Version{At: some(), Value: "\x00\xff", Gone: r.IntN(2) == 0, By: number()})
	}
	if r.IntN(4) > 0 {
		c.Intent = api.Intent{Txn: api.Meta{ID: number(), Epoch: number(), Anchor: "\xff", Start: some()}, Seq: number(), At: some(), Value: "\x00", Gone: r.IntN(2) == 0}
	}
	return c
}

func TestAnyArguments(t *testing.T) { // P1, P8.1: of all chains, right or not; where the search needs none that rise, by the words
	r := rand.New(rand.NewPCG(8, 8))
	for range 60000 {
		c, i := anyChain(r), anyChain(r).Intent
		if r.IntN(2) == 0 {
			i.Txn.ID = c.Intent.Txn.ID
		}
		id, epoch, commit := i.Txn.ID, i.Txn.Epoch, r.IntN(2) == 0
		if got, want := version.Right(c), wordsRight(c); got != want {
			t.Fatalf("Right(%v): %v", c, got)
		}
		writes(t, c, i, wordsWrite(c, i))
		resolves(t, c, id, epoch, commit, i.At, wordsResolve(c, id, epoch, commit, i.At))
		if got, want := version.Query(c, id, epoch, i.Seq, i.At), wordsQuery(c, id, epoch, i.Seq, i.At); got != want {
			t.Fatalf("Query(%v, %v): %v", c, i, got)
		}
		if other := anyChain(r); version.Same(c, other) != alike(c, other) || !version.Same(c, c) {
			t.Fatalf("Same(%v, %v)", c, other)
		}
		got, e := read(c, i.At, i.Txn.Start, id, epoch), refresh(c, id, i.At, i.Txn.Start)
		c.Versions = slices.SortedFunc(slices.Values(c.Versions), func(a, b api.Version) int { return compare(a.At, b.At) })
		reads(t, c, i.At, i.Txn.Start, id, epoch, wordsRead(c, i.At, i.Txn.Start, id, epoch))
		refreshes(t, c, id, i.At, i.Txn.Start, wordsRefresh(c, id, i.At, i.Txn.Start))
		if got.e != api.OK && got.is || got.e != api.ErrIntent && got.txn != (api.Meta{}) || e.e != api.ErrIntent && e.txn != (api.Meta{}) {
			t.Fatalf("rule 2: %v, %v", got, e)
		}
		if t.Failed() {
			return
		}
	}
}
