package clock_test

import (
	"fmt"
	"math"
	"math/rand/v2"
	"testing"

	"wampum/api"
	"wampum/clock"
)

const most = api.MaxWall

func at(wall, logical int) api.Stamp {
	return api.Stamp{Wall: wall, Logical: logical}
}

func made(t *testing.T, offset int) *clock.Clock {
	t.Helper()
	c, e := clock.New(offset)
	if c == nil || e != api.OK {
		t.Fatalf("New(%d): %v, %v", offset, c, e)
	}
	return c
}

// set sets the physical time, which must be OK.
func set(t *testing.T, c *clock.Clock, physical int) {
	t.Helper()
	if e := c.Set(physical); e != api.OK || c.Physical() != physical {
		t.Fatalf("Set(%d): %v, physical %d", physical, e, c.Physical())
	}
}

// now asks for a stamp, which must be that one, and the last one from now on.
func now(t *testing.T, c *clock.Clock, want api.Stamp) {
	t.Helper()
	if s, e := c.Now(); s != want || e != api.OK || c.Last() != want {
		t.Fatalf("Now: %v, %v, last %v, not %v", s, e, c.Last(), want)
	}
}

// none asks for a stamp, of which there must be none.
func none(t *testing.T, c *clock.Clock) {
	t.Helper()
	p, last := c.Physical(), c.Last()
	if s, e := c.Now(); s != (api.Stamp{}) || e != api.ErrClock {
		t.Fatalf("Now: %v, %v", s, e)
	}
	if c.Physical() != p || c.Last() != last {
		t.Fatalf("Now, with an error: %d, %v", c.Physical(), c.Last())
	}
}

// hear tells a stamp, with the error and the last stamp that must come of it.
func hear(t *testing.T, c *clock.Clock, s api.Stamp, want api.Errno, last api.Stamp) {
	t.Helper()
	p := c.Physical()
	if e := c.Hear(s); e != want || c.Last() != last || c.Physical() != p {
		t.Fatalf("Hear(%v): %v, last %v, physical %d, not %v, %v", s, e, c.Last(), c.Physical(), want, last)
	}
}

func TestNew(t *testing.T) { // P4.1
	for _, offset := range []int{0, 1, api.Offset, most - 1, most} {
		c := made(t, offset)
		if c.Physical() != 0 || c.Last() != (api.Stamp{}) {
			t.Errorf("New(%d): %d, %v", offset, c.Physical(), c.Last())
		}
	}
	for _, offset := range []int{-1, -most, math.MinInt, most + 1, 2 * most, math.MaxInt} {
		if c, e := clock.New(offset); c != nil || e != api.ErrArg {
			t.Errorf("New(%d): %v, %v", offset, c, e)
		}
	}
}

func TestSet(t *testing.T) { // P4.1
	c := made(t, api.Offset)
	hear(t, c, at(2, 3), api.OK, at(2, 3))
	for _, s := range []struct {
		physical int
		want     api.Errno
		after    int
	}{
		{-1, api.ErrClock, 0},
		{math.MinInt, api.ErrClock, 0},
		{0, api.OK, 0},
		{5, api.OK, 5},
		{5, api.OK, 5},
		{4, api.ErrClock, 5},
		{0, api.ErrClock, 5},
		{-1, api.ErrClock, 5},
		{6, api.OK, 6},
		{most + 1, api.ErrClock, 6},
		{math.MaxInt, api.ErrClock, 6},
		{most - 1, api.OK, most - 1},
		{most, api.OK, most},
		{most, api.OK, most},
		{most - 1, api.ErrClock, most},
		{most + 1, api.ErrClock, most},
	} {
		if e := c.Set(s.physical); e != s.want || c.Physical() != s.after {
			t.Fatalf("Set(%d): %v, physical %d", s.physical, e, c.Physical())
		}
		if c.Last() != at(2, 3) {
			t.Fatalf("Set(%d): last %v", s.physical, c.Last())
		}
	}
}

func TestNow(t *testing.T) { // P4.1
	c := made(t, api.Offset)
	now(t, c, at(0, 1)) // 0.0 is the last one already
	now(t, c, at(0, 2))
	set(t, c, 5)
	now(t, c, at(5, 0))
	now(t, c, at(5, 1))
	set(t, c, 5)
	now(t, c, at(5, 2))
	hear(t, c, at(9, 7), api.OK, at(9, 7))
	now(t, c, at(9, 8))
	set(t, c, 8)
	now(t, c, at(9, 9))
	set(t, c, 9) // 9.0 is less than the last one
	now(t, c, at(9, 10))
	set(t, c, 10)
	now(t, c, at(10, 0))
}

func TestNowOfAStampHeardAtThePhysicalTime(t *testing.T) { // P4.1
	c := made(t, 0)
	set(t, c, 4)
	hear(t, c, at(3, 65535), api.OK, at(3, 65535))
	now(t, c, at(4, 0))
	c = made(t, 0)
	set(t, c, 4)
	hear(t, c, at(4, 0), api.OK, at(4, 0))
	now(t, c, at(4, 1)) // the physical time's stamp is no greater
}

func TestNowGoesOnInTheNextTick(t *testing.T) { // P4.1
	c := made(t, 2)
	hear(t, c, at(2, 65534), api.OK, at(2, 65534))
	now(t, c, at(2, 65535))
	now(t, c, at(3, 0))
	now(t, c, at(3, 1))
	set(t, c, 3)
	now(t, c, at(3, 2))
}

func TestNowAtTheLastStamp(t *testing.T) { // P4.1
	c := made(t, 0)
	set(t, c, most)
	now(t, c, at(most, 0))
	hear(t, c, at(most, 65534), api.OK, at(most, 65534))
	now(t, c, at(most, 65535))
	none(t, c)
	none(t, c)
	hear(t, c, at(most, 65535), api.OK, at(most, 65535))
	none(t, c)
	set(t, c, most)

	far := made(t, most)
	hear(t, far, at(most, 65535), api.OK, at(most, 65535))
	none(t, far)
	set(t, far, 7) // the clock is good for all else
	hear(t, far, at(3, 0), api.OK, at(most, 65535))
	none(t, far)
}

func TestNowAtTheLastTick(t *testing.T) { // P4.1
	c := made(t, most)
	hear(t, c, at(most-1, 65535), api.OK, at(most-1, 65535))
	now(t, c, at(most, 0))
	set(t, c, most)
	now(t, c, at(most, 1))
}

func TestHear(t *testing.T) { // P4.1
	c := made(t, api.Offset)
	set(t, c, 5)
	hear(t, c, at(0, 0), api.OK, at(0, 0))
	hear(t, c, at(2, 0), api.OK, at(2, 0))
	hear(t, c, at(2, 0), api.OK, at(2, 0))
	hear(t, c, at(1, 65535), api.OK, at(2, 0))
	hear(t, c, at(2, 1), api.OK, at(2, 1))
	hear(t, c, at(2, 0), api.OK, at(2, 1))
	hear(t, c, at(0, 0), api.OK, at(2, 1))
	hear(t, c, at(16, 0), api.ErrSkew, at(2, 1))
	hear(t, c, at(16, 65535), api.ErrSkew, at(2, 1))
	hear(t, c, at(most, 65535), api.ErrSkew, at(2, 1))
	hear(t, c, at(15, 65535), api.OK, at(15, 65535))
	hear(t, c, at(16, 0), api.ErrSkew, at(15, 65535))
	set(t, c, 6)
	hear(t, c, at(16, 0), api.OK, at(16, 0))
	hear(t, c, at(17, 0), api.ErrSkew, at(16, 0))
}

func TestHearAtTheEdges(t *testing.T) { // P4.1: Wall just the physical time and the offset together, and one above
	for _, offset := range []int{0, 1, api.Offset, most - 1, most} {
		for _, physical := range []int{0, 1, 5, most - 1, most} {
			c := made(t, offset)
			set(t, c, physical)
			edge := physical + offset
			if edge < most {
				hear(t, c, at(edge+1, 0), api.ErrSkew, at(0, 0))
				hear(t, c, at(edge+1, 65535), api.ErrSkew, at(0, 0))
			}
			wall := min(edge, most)
			hear(t, c, at(wall, 65535), api.OK, at(wall, 65535))
			hear(t, c, at(most+1, 0), api.ErrStamp, at(wall, 65535)) // not right, whether it is above or not
		}
	}
}

func TestHearOfWrongStamps(t *testing.T) { // P4.1: ErrStamp comes ahead of ErrSkew
	for _, offset := range []int{0, api.Offset, most} {
		c := made(t, offset)
		set(t, c, 5)
		now(t, c, at(5, 0))
		for _, s := range []api.Stamp{
			at(-1, 0), at(0, -1), at(-1, -1), at(5, -1), at(5, 65536), at(6, 65536), at(100, 65536), at(100, -1),
			at(most, 65536), at(most+1, 0), at(2*most, 0), at(most+6, 0),
			at(math.MaxInt, 0), at(math.MinInt, 0), at(0, math.MaxInt), at(0, math.MinInt), at(math.MaxInt, math.MaxInt), at(math.MinInt, math.MinInt),
		} {
			hear(t, c, s, api.ErrStamp, at(5, 0))
		}
		now(t, c, at(5, 1))
	}
}

func TestHearOfAStampThatIsNotGreater(t *testing.T) { // P4.1: ErrSkew is told of the Wall, greater than the last one or not
	c := made(t, 0)
	set(t, c, 2)
	hear(t, c, at(2, 65535), api.OK, at(2, 65535))
	now(t, c, at(3, 0))
	now(t, c, at(3, 1))
	hear(t, c, at(3, 0), api.ErrSkew, at(3, 1))
	hear(t, c, at(3, 1), api.ErrSkew, at(3, 1))
	hear(t, c, at(2, 9), api.OK, at(3, 1))
}

func TestHearHangsOnThePhysicalTime(t *testing.T) { // P4.1: not on the last stamp
	c := made(t, 10)
	hear(t, c, at(10, 0), api.OK, at(10, 0))
	hear(t, c, at(11, 0), api.ErrSkew, at(10, 0))
	hear(t, c, at(20, 0), api.ErrSkew, at(10, 0))
}

func TestCopy(t *testing.T) { // P4.1
	c := made(t, 3)
	set(t, c, 5)
	now(t, c, at(5, 0))
	d := c.Copy()
	if d == c || d.Physical() != 5 || d.Last() != at(5, 0) {
		t.Fatalf("Copy: %d, %v", d.Physical(), d.Last())
	}
	set(t, c, 9)
	now(t, c, at(9, 0))
	hear(t, c, at(12, 4), api.OK, at(12, 4))
	if d.Physical() != 5 || d.Last() != at(5, 0) {
		t.Fatalf("the copy goes with its clock: %d, %v", d.Physical(), d.Last())
	}
	hear(t, d, at(9, 0), api.ErrSkew, at(5, 0)) // the offset is the same
	hear(t, d, at(8, 1), api.OK, at(8, 1))
	set(t, d, 7)
	now(t, d, at(8, 2))
	if c.Physical() != 9 || c.Last() != at(12, 4) {
		t.Fatalf("the clock goes with its copy: %d, %v", c.Physical(), c.Last())
	}
	if e := d.Set(6); e != api.ErrClock {
		t.Errorf("the copy's Set: %v", e)
	}
	e := d.Copy()
	now(t, e, at(8, 3))
	now(t, d, at(8, 3))
}

func TestClocksOfTheirOwn(t *testing.T) { // P4.1, P2
	a, b := made(t, 1), made(t, 20)
	set(t, a, 5)
	now(t, a, at(5, 0))
	if b.Physical() != 0 || b.Last() != (api.Stamp{}) {
		t.Fatalf("the other one: %d, %v", b.Physical(), b.Last())
	}
	hear(t, b, at(20, 0), api.OK, at(20, 0))
	hear(t, a, at(20, 0), api.ErrSkew, at(5, 0))
	now(t, a, at(5, 1))
	now(t, b, at(20, 1))
}

func TestNil(t *testing.T) { // P4.1, P1
	var c *clock.Clock
	for _, p := range []int{-1, 0, 5, most, most + 1} {
		if e := c.Set(p); e != api.ErrArg {
			t.Errorf("Set(%d): %v", p, e)
		}
	}
	if s, e := c.Now(); s != (api.Stamp{}) || e != api.ErrArg {
		t.Errorf("Now: %v, %v", s, e)
	}
	for _, s := range []api.Stamp{{}, at(-1, 0), at(most, 0)} {
		if e := c.Hear(s); e != api.ErrArg {
			t.Errorf("Hear(%v): %v", s, e)
		}
	}
	if c.Physical() != 0 || c.Last() != (api.Stamp{}) || c.Copy() != nil {
		t.Errorf("%d, %v, %v", c.Physical(), c.Last(), c.Copy())
	}
}

// rank counts the right stamps ahead of s, so that their order is that of numbers.
func rank(s api.Stamp) int {
	return s.Wall<<16 + s.Logical
}

func right(s api.Stamp) bool {
	return s.Wall >= 0 && s.Wall <= most && s.Logical >= 0 && s.Logical <= 65535
}

// model is a clock by its words, with the last stamp's rank, and what the promises speak of beside.
type model struct {
	offset, physical, last int
	greatest               int // rank of those that were told and heard
	told                   int
}

// step is one call of a script: Set ('s'), Hear ('h') or Now ('n').
type step struct {
	kind     byte
	physical int
	stamp    api.Stamp
}

func (s step) String() string {
	switch s.kind {
	case 's':
		return fmt.Sprintf("Set(%d)", s.physical)
	case 'h':
		return fmt.Sprintf("Hear(%d.%d)", s.stamp.Wall, s.stamp.Logical)
	}
	return "Now()"
}

func (m *model) set(physical int) api.Errno {
	if physical < m.physical || physical > most {
		return api.ErrClock
	}
	m.physical = physical
	return api.OK
}

func (m *model) hear(s api.Stamp) api.Errno {
	if !right(s) {
		return api.ErrStamp
	}
	if s.Wall > m.physical+m.offset {
		return api.ErrSkew
	}
	m.last = max(m.last, rank(s))
	m.greatest = max(m.greatest, rank(s))
	return api.OK
}

func (m *model) now() (int, api.Errno) {
	next := max(m.physical<<16, m.last+1)
	if next > rank(at(most, 65535)) {
		return 0, api.ErrClock
	}
	m.last = next
	return next, api.OK
}

// take makes one step of both, and tells what does not hold behind it.
func (m *model) take(c *clock.Clock, s step) string {
	switch s.kind {
	case 's':
		if got, want := c.Set(s.physical), m.set(s.physical); got != want {
			return fmt.Sprintf("P4.1: %v, not %v", got, want)
		}
	case 'h':
		if got, want := c.Hear(s.stamp), m.hear(s.stamp); got != want {
			return fmt.Sprintf("P4.1: %v, not %v", got, want)
		}
	default:
		got, e := c.Now()
		want, f := m.now()
		if e != f || e != api.OK && got != (api.Stamp{}) || e == api.OK && (!right(got) || rank(got) != want) {
			return fmt.Sprintf("P4.1: %v, %v, not rank %d, %v", got, e, want, f)
		}
		if e == api.OK {
			if rank(got) <= m.greatest {
				return fmt.Sprintf("P4.2: %v is not greater than all", got)
			}
			m.greatest = rank(got)
			m.told++
		}
	}
	if last := c.Last(); !right(last) || rank(last) != m.last || c.Physical() != m.physical {
		return fmt.Sprintf("P4.1: last %v, physical %d", last, c.Physical())
	}
	if c.Last().Wall > m.physical+m.offset+m.told {
		return fmt.Sprintf("P4.3: last %v, physical %d, offset %d, told %d", c.Last(), m.physical, m.offset, m.told)
	}
	return ""
}

// run makes the steps on a new clock.
func run(t *testing.T, offset int, script []step) {
	t.Helper()
	c := made(t, offset)
	m := &model{offset: offset}
	for i, s := range script {
		if fault := m.take(c, s); fault != "" {
			t.Fatalf("offset %d, %v: %s", offset, script[:i+1], fault)
		}
	}
}

// steps are calls with the numbers at the edges.
func steps() []step {
	out := []step{{kind: 'n'}}
	for _, p := range []int{-1, 0, 1, 2, most - 1, most, most + 1} {
		out = append(out, step{kind: 's', physical: p})
	}
	for _, s := range []api.Stamp{
		at(0, 0), at(0, 65535), at(1, 0), at(2, 0), at(2, 65535), at(3, 65534), at(4, 1),
		at(most-1, 65535), at(most, 0), at(most, 65534), at(most, 65535),
		at(-1, 0), at(3, 65536), at(most+1, 0),
	} {
		out = append(out, step{kind: 'h', stamp: s})
	}
	return out
}

func TestAllShortScripts(t *testing.T) { // P4.1, P4.2, P4.3
	all := steps()
	for _, offset := range []int{0, 2, most} {
		for _, a := range all {
			for _, b := range all {
				for _, c := range all {
					// Two stamps at the end, so that each script tells what it led to.
					run(t, offset, []step{a, b, c, {kind: 'n'}, {kind: 'n'}})
				}
			}
		}
	}
}

func TestLongScripts(t *testing.T) { // P4.1, P4.2, P4.3
	r := rand.New(rand.NewPCG(4, 4)) // the same numbers in each run
	for range 300 {
		offset := []int{0, 1, api.Offset, 1000, most - 1, most}[r.IntN(6)]
		from := []int{0, 0, 1000, most - 200}[r.IntN(4)]
		script := []step{{kind: 's', physical: from}}
		p := from
		for range 300 {
			switch r.IntN(4) {
			case 0:
				p += r.IntN(4) - 1
				script = append(script, step{kind: 's', physical: p})
			case 1:
				wall := p + r.IntN(24) - 8 + r.IntN(2)*offset
				script = append(script, step{kind: 'h', stamp: at(wall, []int{0, 1, 65533, 65534, 65535, 65536}[r.IntN(6)])})
			default:
				script = append(script, step{kind: 'n'})
			}
		}
		run(t, offset, script)
	}
}

func TestNearTheWorldThroughTicks(t *testing.T) { // P4.2, P4.3: two ticks go by with no physical time
	script := []step{{kind: 's', physical: 5}, {kind: 'h', stamp: at(7, 65535)}}
	for range 2*(api.MaxLogical+1) + 1 {
		script = append(script, step{kind: 'n'})
	}
	script = append(script, step{kind: 'h', stamp: at(8, 0)}, step{kind: 's', physical: 6}, step{kind: 'h', stamp: at(8, 0)}, step{kind: 'n'})
	run(t, 2, script)
}
