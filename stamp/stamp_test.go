package stamp_test

import (
	"bytes"
	"math"
	"slices"
	"testing"

	"wampum/api"
	"wampum/pack"
	"wampum/stamp"
)

func at(wall, logical int) api.Stamp {
	return api.Stamp{Wall: wall, Logical: logical}
}

// rising are numbers from the least to the greatest, those at the limits' edges among them.
func rising() []int {
	return []int{
		math.MinInt, math.MinInt + 1, -4 * api.MaxWall, -2*api.MaxWall - 1, -2 * api.MaxWall, -65536, -1,
		0, 1, 2, 9, 127, 128, 65534, api.MaxLogical, 65536,
		api.MaxWall - 1, api.MaxWall, api.MaxWall + 1, 2 * api.MaxWall, 2*api.MaxWall + 1, 4 * api.MaxWall, math.MaxInt - 1, math.MaxInt,
	}
}

// stamps are all of those numbers, by rising stamps, right ones and others.
func stamps() []api.Stamp {
	var out []api.Stamp
	for _, w := range rising() {
		for _, l := range rising() {
			out = append(out, at(w, l))
		}
	}
	return out
}

func rights() []api.Stamp {
	return slices.DeleteFunc(stamps(), func(s api.Stamp) bool { return !stamp.Right(s) })
}

func TestRight(t *testing.T) { // P3.1
	for _, c := range []struct {
		s    api.Stamp
		want bool
	}{
		{api.Stamp{}, true},
		{at(3, 9), true},
		{at(0, 65535), true},
		{at(1<<40, 0), true},
		{at(1<<40, 65535), true},
		{at(0, 65536), false},
		{at(0, -1), false},
		{at(-1, 0), false},
		{at(-1, -1), false},
		{at(1<<40+1, 0), false},
		{at(1<<40, 65536), false},
		{at(math.MaxInt, 0), false},
		{at(math.MinInt, 0), false},
		{at(0, math.MaxInt), false},
		{at(0, math.MinInt), false},
	} {
		if got := stamp.Right(c.s); got != c.want {
			t.Errorf("Right(%v): %v", c.s, got)
		}
	}
}

func TestOrderByWallThenLogical(t *testing.T) { // P3.1
	for _, c := range []struct {
		a, b api.Stamp
		want int
	}{
		{api.Stamp{}, api.Stamp{}, 0},
		{at(3, 9), at(3, 9), 0},
		{at(3, 9), at(4, 0), -1},
		{at(4, 0), at(3, 9), 1},
		{at(3, 9), at(3, 10), -1},
		{at(3, 10), at(3, 9), 1},
		{at(0, 0), at(0, 1), -1},
		{at(1, 0), at(0, 65535), 1},
		{at(-1, 5), at(0, 0), -1},
		{at(0, -1), at(0, 0), -1},
		{at(math.MinInt, 0), at(math.MaxInt, 0), -1},
		{at(math.MaxInt, 0), at(math.MinInt, 0), 1},
		{at(0, math.MinInt), at(0, math.MaxInt), -1},
		{at(0, math.MaxInt), at(0, math.MinInt), 1},
	} {
		if got := stamp.Compare(c.a, c.b); got != c.want {
			t.Errorf("Compare(%v, %v): %v", c.a, c.b, got)
		}
	}
}

func TestAnOrder(t *testing.T) { // P3.1, P3.2
	all := stamps()
	for i, a := range all {
		for j, b := range all {
			want := 0
			if i < j {
				want = -1
			} else if i > j {
				want = 1
			}
			if got := stamp.Compare(a, b); got != want {
				t.Fatalf("Compare(%v, %v): %v", a, b, got)
			}
			if got := stamp.Less(a, b); got != (i < j) {
				t.Fatalf("Less(%v, %v): %v", a, b, got)
			}
			if got := stamp.Max(a, b); got != all[max(i, j)] {
				t.Fatalf("Max(%v, %v): %v", a, b, got)
			}
		}
	}
}

func TestNoneIsTheLeast(t *testing.T) { // P3.2
	for _, s := range rights() {
		if stamp.Less(s, api.Stamp{}) {
			t.Errorf("%v is less than NONE", s)
		}
	}
}

func TestNext(t *testing.T) { // P3.1
	for _, c := range []struct{ s, want api.Stamp }{
		{api.Stamp{}, at(0, 1)},
		{at(3, 9), at(3, 10)},
		{at(3, 65534), at(3, 65535)},
		{at(3, 65535), at(4, 0)},
		{at(0, 65535), at(1, 0)},
		{at(1<<40-1, 65535), at(1<<40, 0)},
		{at(1<<40, 0), at(1<<40, 1)},
		{at(1<<40, 65534), at(1<<40, 65535)},
	} {
		if got, e := stamp.Next(c.s); got != c.want || e != api.OK {
			t.Errorf("Next(%v): %v, %v", c.s, got, e)
		}
	}
}

func TestNextOfNone(t *testing.T) { // P3.1
	wrong := []api.Stamp{at(1<<40, 65535)}
	for _, s := range stamps() {
		if !stamp.Right(s) {
			wrong = append(wrong, s)
		}
	}
	for _, s := range wrong {
		if got, e := stamp.Next(s); got != (api.Stamp{}) || e != api.ErrStamp {
			t.Errorf("Next(%v): %v, %v", s, got, e)
		}
	}
}

func TestNextIsTheNearest(t *testing.T) { // P3.2
	all := rights()
	for _, s := range all {
		n, e := stamp.Next(s)
		if s == at(api.MaxWall, api.MaxLogical) {
			continue
		}
		if e != api.OK || !stamp.Right(n) || !stamp.Less(s, n) {
			t.Fatalf("Next(%v): %v, %v", s, n, e)
		}
		for _, other := range all {
			if stamp.Less(s, other) && stamp.Less(other, n) {
				t.Errorf("%v lies between %v and %v", other, s, n)
			}
		}
	}
}

func TestNextGoesThroughAll(t *testing.T) { // P3.2
	s := at(7, 0)
	for wall := 7; wall < 9; wall++ {
		for logical := range api.MaxLogical + 1 {
			if s != at(wall, logical) {
				t.Fatalf("%v, not %d.%d", s, wall, logical)
			}
			s, _ = stamp.Next(s)
		}
	}
}

func TestPlus(t *testing.T) { // P3.1
	const most = api.MaxWall
	for _, c := range []struct {
		s     api.Stamp
		ticks int
		want  int
	}{
		{at(3, 9), 10, 13},
		{at(3, 65535), 0, 3},
		{at(3, 9), -2, 1},
		{at(3, 9), -3, 0},
		{at(3, 9), -4, 0},
		{at(3, 9), -10, 0},
		{at(0, 0), 0, 0},
		{at(0, 0), most, most},
		{at(most, 0), 0, most},
		{at(most, 0), 1, most},
		{at(most-1, 0), 1, most},
		{at(most-1, 0), 2, most},
		{at(most-2, 0), 1, most - 1},
		{at(most, 0), -1, most - 1},
		{at(most, 0), -most, 0},
		{at(most, 0), 1 - most, 1},
		// a stamp that is not right
		{at(-5, 0), 4, 0},
		{at(-5, 0), 5, 0},
		{at(-5, 0), 7, 2},
		{at(3, -1), 1, 4},
		{at(3, 65536), 1, 4},
		{at(3, math.MinInt), 1, 4},
		{at(most+7, 0), -8, most - 1},
		// a Wall at its edges, and beyond them
		{at(2*most, 0), -2 * most, 0},
		{at(2*most, 0), 1 - 2*most, 1},
		{at(2*most+1, 0), 1 - 2*most, 1},
		{at(2*most-1, 0), 2 - 2*most, 1},
		{at(5*most, 0), -most - 5, most - 5},
		{at(math.MaxInt, 0), -most - 5, most - 5},
		{at(-2*most, 0), 2*most + 5, 5},
		{at(-2*most+1, 0), 2*most + 5, 6},
		{at(-2*most-1, 0), 2*most + 5, 5},
		{at(-5*most, 0), 2*most + 5, 5},
		{at(math.MinInt, 0), 2*most + 5, 5},
		// ticks at their edges, and beyond them
		{at(3, 0), 4 * most, most},
		{at(3, 0), 4*most + 1, most},
		{at(3, 0), math.MaxInt, most},
		{at(3, 0), -4 * most, 0},
		{at(3, 0), -4*most - 1, 0},
		{at(3, 0), math.MinInt, 0},
		{at(-2*most, 0), 4 * most, most},
		{at(math.MinInt, 0), math.MaxInt, most},
		{at(math.MaxInt, 0), math.MaxInt, most},
		{at(math.MaxInt, 0), math.MinInt, 0},
		{at(math.MinInt, 0), math.MinInt, 0},
	} {
		if got := stamp.Plus(c.s, c.ticks); got != at(c.want, 65535) {
			t.Errorf("Plus(%v, %d): %v, not %d.65535", c.s, c.ticks, got, c.want)
		}
	}
}

func TestPlusIsRight(t *testing.T) { // P3.1
	for _, s := range stamps() {
		for _, ticks := range rising() {
			if got := stamp.Plus(s, ticks); !stamp.Right(got) || got.Logical != api.MaxLogical {
				t.Fatalf("Plus(%v, %d): %v", s, ticks, got)
			}
		}
	}
}

func TestPutBytes(t *testing.T) { // P3.1
	for _, c := range []struct {
		s    api.Stamp
		want string
	}{
		{api.Stamp{}, "\x00\x00"},
		{at(3, 9), "\x03\x09"},
		{at(300, 1), "\xac\x02\x01"},
		{at(1, 300), "\x01\xac\x02"},
		{at(1<<40, 65535), "\x80\x80\x80\x80\x80\x20\xff\xff\x03"},
		{at(-1, 5), "\x00\x05"},
		{at(5, -1), "\x05\x00"},
		{at(1<<40+1, 65536), "\x81\x80\x80\x80\x80\x20\x80\x80\x04"},
	} {
		if got := stamp.Put(nil, c.s); string(got) != c.want {
			t.Errorf("Put(%v): %x", c.s, got)
		}
		if got := stamp.Put([]byte("ahead"), c.s); string(got) != "ahead"+c.want {
			t.Errorf("Put(%v) behind others: %x", c.s, got)
		}
	}
}

func TestPutLeavesItsBytes(t *testing.T) { // P3.1
	whole := []byte("ahead and behind")
	b := whole[:5]
	one := stamp.Put(b, at(1, 2))
	two := stamp.Put(b, at(3, 4))
	if string(whole) != "ahead and behind" {
		t.Errorf("what was handed in is changed: %q", whole)
	}
	if string(one) != "ahead\x01\x02" || string(two) != "ahead\x03\x04" {
		t.Errorf("%q, %q", one, two)
	}
	one[0] = 'X'
	if whole[0] != 'a' || two[0] != 'a' {
		t.Error("answers share memory")
	}
}

func TestThereAndBack(t *testing.T) { // P3.1
	all := rights()
	var b []byte
	for _, s := range all {
		b = stamp.Put(b, s)
	}
	r := pack.Open(b)
	for _, s := range all {
		if got, e := stamp.Get(r); got != s || e != api.OK {
			t.Fatalf("Get: %v, %v, not %v", got, e, s)
		}
	}
	if e := r.End(); e != api.OK {
		t.Errorf("%d bytes are left", r.Left())
	}
	if got, e := stamp.Get(r); got != (api.Stamp{}) || e != api.ErrPack {
		t.Errorf("at the end: %v, %v", got, e)
	}
}

func TestGetStays(t *testing.T) { // P3.1
	for name, b := range map[string][]byte{
		"no byte":              nil,
		"half":                 {3},
		"a number cut":         {0x80},
		"the second one cut":   {3, 0x80},
		"a Wall too great":     stamp.Put(nil, at(1<<40+1, 0)),
		"a Logical too great":  stamp.Put(nil, at(3, 65536)),
		"both too great":       stamp.Put(nil, at(math.MaxInt, math.MaxInt)),
		"a Wall too long":      {0x80, 0, 1},
		"a Logical too long":   {1, 0x80, 0},
		"a number without end": bytes.Repeat([]byte{0xff}, 30),
	} {
		r := pack.Open(b)
		for range 2 {
			if got, e := stamp.Get(r); got != (api.Stamp{}) || e != api.ErrPack {
				t.Errorf("%s: %v, %v", name, got, e)
			}
		}
		if r.Left() != len(b) {
			t.Errorf("%s: %d bytes are left, of %d", name, r.Left(), len(b))
		}
	}
}

func TestGetStaysWhereItIs(t *testing.T) { // P3.1
	// What the reader answers behind the error tells where it is, the count of its bytes alone does not.
	r := pack.Open([]byte{7, 8, 5, 0x80, 0x80, 0x04, 6})
	if s, e := stamp.Get(r); s != at(7, 8) || e != api.OK {
		t.Fatalf("the first one: %v, %v", s, e)
	}
	if s, e := stamp.Get(r); s != (api.Stamp{}) || e != api.ErrPack {
		t.Fatalf("65536: %v, %v", s, e)
	}
	for _, want := range []int{5, 65536, 6} {
		if n, e := r.Number(1 << 20); n != want || e != api.OK {
			t.Errorf("%d, %v, not %d", n, e, want)
		}
	}
}

func TestGetOfNoReader(t *testing.T) { // P3.1
	if s, e := stamp.Get(nil); s != (api.Stamp{}) || e != api.ErrArg {
		t.Errorf("nil: %v, %v", s, e)
	}
	if s, e := stamp.Get(new(pack.Reader)); s != (api.Stamp{}) || e != api.ErrPack {
		t.Errorf("an empty one: %v, %v", s, e)
	}
}

func TestText(t *testing.T) { // P3.1
	for _, c := range []struct {
		s    api.Stamp
		want string
	}{
		{api.Stamp{}, "0.0"},
		{at(3, 9), "3.9"},
		{at(10, 100), "10.100"},
		{at(1<<40, 65535), "1099511627776.65535"},
		{at(-2, 0), "-2.0"},
		{at(0, -3), "0.-3"},
		{at(-2, -3), "-2.-3"},
		{at(math.MinInt, math.MaxInt), "-9223372036854775808.9223372036854775807"},
	} {
		if got := stamp.Text(c.s); got != c.want {
			t.Errorf("Text(%v): %q", c.s, got)
		}
	}
}

func FuzzGet(f *testing.F) { // P3.1: just the bytes that Put made are read, and else nothing moves
	f.Add([]byte{3, 9, 1})
	f.Add([]byte{3, 0x80, 0})
	f.Add(stamp.Put(nil, at(1<<40, 65535)))
	f.Add(stamp.Put(nil, at(1<<40+1, 65536)))
	f.Fuzz(func(t *testing.T, b []byte) {
		r := pack.Open(b)
		s, e := stamp.Get(r)
		read := b[:len(b)-r.Left()]
		if e == api.OK {
			if !stamp.Right(s) || !bytes.Equal(stamp.Put(nil, s), read) {
				t.Errorf("%v of % x", s, read)
			}
			return
		}
		if e != api.ErrPack || s != (api.Stamp{}) || len(read) != 0 {
			t.Errorf("%v, %v, %d bytes read", s, e, len(read))
		}
	})
}
