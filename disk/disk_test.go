package disk_test

import (
	"bytes"
	"fmt"
	"math"
	"math/rand/v2"
	"strings"
	"testing"

	"wampum/api"
	"wampum/disk"
)

const most = 1 << 24

// is asks for all that a disk tells.
func is(t *testing.T, d *disk.Disk, file, cell string, dirty bool) {
	t.Helper()
	if d == nil {
		t.Fatalf("no disk, not %.40q, %.40q", file, cell)
	}
	if f, c := string(d.File()), string(d.Cell()); f != file || c != cell || d.Dirty() != dirty {
		t.Fatalf("file %.40q, cell %.40q, dirty %v, not %.40q, %.40q, %v", f, c, d.Dirty(), file, cell, dirty)
	}
}

// ok makes sure of what a call answered.
func ok(t *testing.T, got, want api.Errno) {
	t.Helper()
	if got != want {
		t.Fatalf("%v, not %v", got, want)
	}
}

// made is a disk with a safe file, then cut to some bytes, then with some more behind.
func made(t *testing.T, safe string, cut int, more string) *disk.Disk {
	t.Helper()
	d := disk.New()
	ok(t, d.Append([]byte(safe)), api.OK)
	ok(t, d.Sync(), api.OK)
	ok(t, d.Cut(cut), api.OK)
	ok(t, d.Append([]byte(more)), api.OK)
	return d
}

func TestNew(t *testing.T) { // P6.1
	d := disk.New()
	is(t, d, "", "", false)
	ok(t, d.Sync(), api.OK)
	is(t, d, "", "", false)
	for _, keep := range []int{-1, 0, 1, 9} {
		is(t, d.Crash(keep, true, true), "", "", false)
		is(t, d.Crash(keep, false, false), "", "", false)
	}
}

func TestScript(t *testing.T) { // P6.1
	d := disk.New()
	ok(t, d.Append([]byte("sa")), api.OK)
	is(t, d, "sa", "", true)
	ok(t, d.Append([]byte("fe")), api.OK)
	is(t, d, "safe", "", true)
	ok(t, d.Sync(), api.OK)
	is(t, d, "safe", "", false)
	ok(t, d.Set([]byte("one")), api.OK)
	is(t, d, "safe", "one", true)
	ok(t, d.Sync(), api.OK)
	is(t, d, "safe", "one", false)
	ok(t, d.Append([]byte("new")), api.OK)
	is(t, d, "safenew", "one", true)
	ok(t, d.Set([]byte("two")), api.OK)
	is(t, d, "safenew", "two", true)
	is(t, d.Crash(0, false, false), "safe", "one", false)
	is(t, d.Crash(2, true, false), "safend", "one", false)
	is(t, d.Crash(3, false, true), "safenew", "two", false)
	is(t, d, "safenew", "two", true)
	ok(t, d.Cut(2), api.OK)
	is(t, d, "sa", "two", true)
	ok(t, d.Append([]byte("xy")), api.OK)
	is(t, d, "saxy", "two", true)
	is(t, d.Crash(0, true, true), "safe", "two", false)
	is(t, d.Crash(1, true, false), "say", "one", false)
	ok(t, d.Sync(), api.OK)
	is(t, d, "saxy", "two", false)
	is(t, d.Crash(0, true, false), "saxy", "two", false)
}

func TestAppendNothing(t *testing.T) { // P6.1
	d := disk.New()
	for _, file := range []string{"", "ab"} {
		ok(t, d.Append([]byte(file)), api.OK)
		ok(t, d.Sync(), api.OK)
		ok(t, d.Append(nil), api.OK)
		is(t, d, file, "", false)
		ok(t, d.Append([]byte{}), api.OK)
		is(t, d, file, "", false)
	}
}

func TestCut(t *testing.T) { // P6.1
	for _, c := range []struct {
		n    int
		want api.Errno
		file string
	}{
		{0, api.OK, ""}, {1, api.OK, "a"}, {3, api.OK, "abc"}, {4, api.OK, "abcd"},
		{5, api.ErrDisk, "abcd"}, {most, api.ErrDisk, "abcd"}, {math.MaxInt, api.ErrDisk, "abcd"},
		{-1, api.ErrDisk, "abcd"}, {math.MinInt, api.ErrDisk, "abcd"},
	} {
		d := made(t, "abcd", 4, "")
		ok(t, d.Cut(c.n), c.want)
		is(t, d, c.file, "", c.file != "abcd")
		ok(t, d.Append([]byte("x")), api.OK)
		is(t, d, c.file+"x", "", true)
		is(t, d.Crash(0, false, false), "abcd", "", false)
	}
}

func TestCutOfAnEmptyFile(t *testing.T) { // P6.1
	d := disk.New()
	ok(t, d.Cut(0), api.OK)
	ok(t, d.Cut(1), api.ErrDisk)
	ok(t, d.Cut(-1), api.ErrDisk)
	is(t, d, "", "", false)
}

func TestCutReachesTheFileNow(t *testing.T) { // P6.1: how many bytes there are is asked of the file now, not of the safe one
	d := made(t, "abcd", 2, "")
	ok(t, d.Cut(3), api.ErrDisk)
	is(t, d, "ab", "", true)
	d = made(t, "ab", 2, "cd")
	ok(t, d.Cut(3), api.OK)
	is(t, d, "abc", "", true)
}

func TestSet(t *testing.T) { // P6.1
	d := disk.New()
	for _, cell := range []string{"one", "", "o", "\x00\xff", "much longer than the others"} {
		ok(t, d.Set([]byte(cell)), api.OK)
		is(t, d, "", cell, true)
		ok(t, d.Sync(), api.OK)
		is(t, d, "", cell, false)
		ok(t, d.Set([]byte(cell)), api.OK)
		is(t, d, "", cell, false)
	}
	ok(t, d.Set(nil), api.OK)
	is(t, d, "", "", true)
	is(t, d.Crash(9, true, false), "", "much longer than the others", false)
	is(t, d.Crash(0, false, true), "", "", false)
}

func TestDirty(t *testing.T) { // P6.1: what is now is held against what is safe, by its bytes
	for _, c := range []struct {
		cut  int
		more string
		want bool
	}{
		{4, "", false}, {4, "x", true}, {3, "", true}, {3, "e", false}, {3, "x", true},
		{0, "", true}, {0, "safe", false}, {0, "saf", true}, {0, "safer", true}, {2, "xe", true},
	} {
		d := made(t, "safe", c.cut, c.more)
		is(t, d, "safe"[:c.cut]+c.more, "", c.want)
		ok(t, d.Sync(), api.OK)
		is(t, d, "safe"[:c.cut]+c.more, "", false)
	}
	d := disk.New()
	ok(t, d.Set([]byte("one")), api.OK)
	ok(t, d.Sync(), api.OK)
	for _, cell := range []string{"on", "ones", "onx", "", "one"} {
		ok(t, d.Set([]byte(cell)), api.OK)
		is(t, d, "", cell, cell != "one")
	}
}

func TestCrash(t *testing.T) { // P6.1
	for _, c := range []struct {
		cut   int
		more  string
		keep  int
		plain string
		torn  string
	}{
		// The file now is equal to the safe one.
		{4, "", -1, "safe", "safe"}, {4, "", 0, "safe", "safe"}, {4, "", 1, "safe", "safe"}, {4, "", 9, "safe", "safe"},
		{2, "fe", 0, "safe", "safe"}, {2, "fe", 1, "safe", "safe"}, {0, "safe", 9, "safe", "safe"},
		// It is a beginning of the safe one.
		{2, "", -1, "safe", "safe"}, {2, "", 0, "safe", "safe"}, {2, "", 1, "sa", "sa"}, {2, "", 9, "sa", "sa"},
		{0, "", 0, "safe", "safe"}, {0, "", 1, "", ""}, {1, "af", 0, "safe", "safe"}, {1, "af", 1, "saf", "saf"},
		// It goes on behind the safe one.
		{4, "new", -9, "safe", "safe"}, {4, "new", 0, "safe", "safe"}, {4, "new", 1, "safen", "safeo"},
		{4, "new", 2, "safene", "safend"}, {4, "new", 3, "safenew", "safenev"}, {4, "new", 4, "safenew", "safenev"},
		{0, "safenew", 0, "safe", "safe"}, {0, "safenew", 1, "safen", "safeo"},
		// It differs in the middle, and is shorter.
		{2, "x", -1, "safe", "safe"}, {2, "x", 0, "safe", "safe"}, {2, "x", 1, "sax", "say"}, {2, "x", 2, "sax", "say"},
		{0, "x", 0, "safe", "safe"}, {0, "x", 1, "x", "y"}, {1, "xy", 2, "sxy", "sxx"}, {1, "ax", 1, "sax", "say"},
		// It differs in the middle, and is as long.
		{2, "xy", 0, "safe", "safe"}, {2, "xy", 1, "sax", "say"}, {2, "xy", 2, "saxy", "saxx"}, {2, "xy", 3, "saxy", "saxx"},
		{2, "xe", 1, "sax", "say"}, {2, "xe", 2, "saxe", "saxd"}, {2, "fx", 1, "safx", "safy"}, {0, "xafe", 1, "x", "y"},
		// It differs in the middle, and is longer.
		{2, "xyz", 0, "safe", "safe"}, {2, "xyz", 1, "sax", "say"}, {2, "xyz", 2, "saxy", "saxx"},
		{2, "xyz", 3, "saxyz", "saxy{"}, {2, "xyz", 9, "saxyz", "saxy{"}, {2, "fxyz", 2, "safxy", "safxx"},
	} {
		for _, keep := range ends(c.keep) {
			d := made(t, "safe", c.cut, c.more)
			now := string(d.File())
			is(t, d.Crash(keep, false, false), c.plain, "", false)
			is(t, d.Crash(keep, true, false), c.torn, "", false)
			is(t, d, now, "", now != "safe")
		}
	}
}

// ends are that number, and the furthest ones that mean the same: below 1, and beyond all bytes that there are.
func ends(keep int) []int {
	switch {
	case keep < 1:
		return []int{keep, math.MinInt, math.MinInt + 1}
	case keep > 4:
		return []int{keep, most, math.MaxInt - 1, math.MaxInt}
	}
	return []int{keep}
}

func TestCrashOfAnEmptySafeFile(t *testing.T) { // P6.1
	d := made(t, "", 0, "abc")
	is(t, d.Crash(0, true, false), "", "", false)
	is(t, d.Crash(1, false, false), "a", "", false)
	is(t, d.Crash(1, true, false), "`", "", false)
	is(t, d.Crash(3, false, false), "abc", "", false)
	is(t, d.Crash(4, true, false), "abb", "", false)
}

func TestCrashTurnsTheLowestBit(t *testing.T) { // P6.1: of each byte
	for b := range 256 {
		d := made(t, "\x00", 1, "\x00"+string([]byte{byte(b)})+"\x00")
		is(t, d.Crash(2, true, false), string([]byte{0, 0, byte(b) ^ 1}), "", false)
	}
}

func TestCrashOfTheCell(t *testing.T) { // P6.1: whatever becomes of the file
	d := made(t, "safe", 2, "xy")
	ok(t, d.Set([]byte("one")), api.OK)
	is(t, d.Crash(1, false, false), "sax", "", false)
	is(t, d.Crash(1, false, true), "sax", "one", false)
	ok(t, d.Sync(), api.OK)
	ok(t, d.Set([]byte("two")), api.OK)
	for _, keep := range []int{-1, 0, 1, 2} {
		for _, torn := range []bool{false, true} {
			is(t, d.Crash(keep, torn, false), "saxy", "one", false)
			is(t, d.Crash(keep, torn, true), "saxy", "two", false)
		}
	}
	is(t, d, "saxy", "two", true)
}

func TestCrashIsADiskOfItsOwn(t *testing.T) { // P6.1: what is now is safe there, and no disk tells of the other's calls
	d := made(t, "safe", 4, "new")
	ok(t, d.Set([]byte("one")), api.OK)
	c := d.Crash(3, false, true)
	is(t, c, "safenew", "one", false)
	is(t, c.Crash(0, true, false), "safenew", "one", false)
	ok(t, c.Cut(1), api.OK)
	ok(t, c.Append([]byte("XYZ")), api.OK)
	ok(t, c.Set([]byte("two")), api.OK)
	is(t, c, "sXYZ", "two", true)
	is(t, d, "safenew", "one", true)
	is(t, c.Crash(0, false, false), "safenew", "one", false)
	is(t, c.Crash(1, false, false), "sX", "one", false)
	ok(t, c.Sync(), api.OK)
	ok(t, d.Cut(5), api.OK)
	ok(t, d.Append([]byte("---")), api.OK)
	ok(t, d.Set(nil), api.OK)
	is(t, c, "sXYZ", "two", false)
	is(t, d, "safen---", "", true)
	is(t, d.Crash(0, false, false), "safe", "", false)
	is(t, c.Crash(9, true, true), "sXYZ", "two", false)
}

func TestTwoCrashesOfOneDisk(t *testing.T) { // P6.1
	d := made(t, "safe", 4, "new")
	a, b := d.Crash(9, false, false), d.Crash(9, false, false)
	ok(t, a.Append([]byte("a")), api.OK)
	ok(t, b.Append([]byte("b")), api.OK)
	ok(t, d.Append([]byte("d")), api.OK)
	is(t, a, "safenewa", "", true)
	is(t, b, "safenewb", "", true)
	is(t, d, "safenewd", "", true)
}

func TestSafeIsNotWrittenOver(t *testing.T) { // P6.2: by what is appended behind a cut, with room behind and without
	for n := range 40 {
		safe := strings.Repeat("s", n)
		for cut := range n + 1 {
			d := disk.New()
			for range n {
				ok(t, d.Append([]byte("s")), api.OK)
			}
			ok(t, d.Sync(), api.OK)
			ok(t, d.Cut(cut), api.OK)
			ok(t, d.Append([]byte("x")), api.OK)
			is(t, d.Crash(0, false, false), safe, "", false)
			ok(t, d.Cut(cut), api.OK)
			ok(t, d.Append([]byte("yyy")), api.OK)
			is(t, d.Crash(0, true, true), safe, "", false)
			is(t, d, safe[:cut]+"yyy", "", true)
		}
	}
}

func TestFileAtItsMost(t *testing.T) { // P6.1
	full := bytes.Repeat([]byte("abcdefgh"), most/8)
	d := disk.New()
	ok(t, d.Append(append(full, 'x')), api.ErrDisk)
	is(t, d, "", "", false)
	ok(t, d.Append(full[:most-1]), api.OK)
	ok(t, d.Append([]byte("hx")), api.ErrDisk)
	is(t, d, string(full[:most-1]), "", true)
	ok(t, d.Append([]byte("h")), api.OK)
	is(t, d, string(full), "", true)
	ok(t, d.Sync(), api.OK)
	ok(t, d.Append(nil), api.OK)
	ok(t, d.Append([]byte("x")), api.ErrDisk)
	ok(t, d.Append(full), api.ErrDisk)
	ok(t, d.Cut(most+1), api.ErrDisk)
	is(t, d, string(full), "", false)
	ok(t, d.Cut(most), api.OK)
	ok(t, d.Append([]byte("x")), api.ErrDisk)
	ok(t, d.Cut(most-2), api.OK)
	ok(t, d.Append([]byte("xyz")), api.ErrDisk)
	is(t, d, string(full[:most-2]), "", true)
	ok(t, d.Append([]byte("xz")), api.OK)
	is(t, d.Crash(0, true, false), string(full), "", false)
	is(t, d.Crash(1, true, false), string(full[:most-2])+"y", "", false)
	is(t, d.Crash(2, false, false), string(full[:most-2])+"xz", "", false)
	c := d.Crash(2, true, false)
	is(t, c, string(full[:most-2])+"x{", "", false)
	ok(t, c.Append([]byte("x")), api.ErrDisk)
	is(t, c, string(full[:most-2])+"x{", "", false)
	ok(t, d.Cut(0), api.OK)
	ok(t, d.Append(full), api.OK)
	is(t, d, string(full), "", false)
}

func TestFileAtOnceAtItsMost(t *testing.T) { // P6.1
	full := make([]byte, most)
	d := disk.New()
	ok(t, d.Append(full), api.OK)
	is(t, d, string(full), "", true)
	ok(t, d.Append([]byte{0}), api.ErrDisk)
	is(t, d, string(full), "", true)
	is(t, d.Crash(most, false, false), string(full), "", false)
	is(t, d.Crash(most-1, false, false), string(full[1:]), "", false)
}

func TestCellAtItsMost(t *testing.T) { // P6.1: a cell, and a file beside it, with as much each
	full := bytes.Repeat([]byte("abcdefgh"), most/8)
	d := disk.New()
	ok(t, d.Set(append(full, 'x')), api.ErrDisk)
	is(t, d, "", "", false)
	ok(t, d.Set([]byte("one")), api.OK)
	ok(t, d.Sync(), api.OK)
	ok(t, d.Set(append(full, 'x')), api.ErrDisk)
	is(t, d, "", "one", false)
	ok(t, d.Set(full), api.OK)
	is(t, d, "", string(full), true)
	ok(t, d.Append(full), api.OK)
	is(t, d, string(full), string(full), true)
	ok(t, d.Set(append(full, 'x')), api.ErrDisk)
	is(t, d, string(full), string(full), true)
	is(t, d.Crash(0, false, true), "", string(full), false)
	ok(t, d.Set(full), api.OK)
	ok(t, d.Set([]byte("two")), api.OK)
	is(t, d, string(full), "two", true)
}

func TestNil(t *testing.T) { // P6.1, P1: ErrArg comes ahead of all else
	var d *disk.Disk
	for _, b := range [][]byte{nil, {}, []byte("a"), make([]byte, most+1)} {
		ok(t, d.Append(b), api.ErrArg)
		ok(t, d.Set(b), api.ErrArg)
	}
	for _, n := range []int{math.MinInt, -1, 0, 1, math.MaxInt} {
		ok(t, d.Cut(n), api.ErrArg)
		if c := d.Crash(n, true, true); c != nil {
			t.Errorf("Crash(%d): %v", n, c)
		}
		if c := d.Crash(n, false, false); c != nil {
			t.Errorf("Crash(%d): %v", n, c)
		}
	}
	ok(t, d.Sync(), api.ErrArg)
	if len(d.File()) != 0 || len(d.Cell()) != 0 || d.Dirty() {
		t.Errorf("%q, %q, %v", d.File(), d.Cell(), d.Dirty())
	}
}

func TestDisksOfTheirOwn(t *testing.T) { // P2
	a, b := disk.New(), disk.New()
	ok(t, a.Append([]byte("a")), api.OK)
	ok(t, a.Set([]byte("one")), api.OK)
	is(t, b, "", "", false)
	ok(t, b.Append([]byte("bb")), api.OK)
	ok(t, b.Sync(), api.OK)
	is(t, a, "a", "one", true)
	is(t, b, "bb", "", false)
}

// step is a call: a Append, c Cut, s Set, y Sync, x Crash (the disk behind it is the one that goes on).
type step struct {
	kind       byte
	text       string
	n          int
	torn, cell bool
}

func (s step) String() string {
	switch s.kind {
	case 'a':
		return fmt.Sprintf("Append(%.40q)", s.text)
	case 'c':
		return fmt.Sprintf("Cut(%d)", s.n)
	case 's':
		return fmt.Sprintf("Set(%.40q)", s.text)
	case 'y':
		return "Sync"
	}
	return fmt.Sprintf("Crash(%d, %v, %v)", s.n, s.torn, s.cell)
}

// model is a disk of texts, and how many first bytes of the safe file were not cut since it is safe.
type model struct {
	file, cell         string
	safeFile, safeCell string
	uncut              int
}

func (m *model) cut(n int) api.Errno {
	if n < 0 || n > len(m.file) {
		return api.ErrDisk
	}
	m.file = m.file[:n]
	m.uncut = min(m.uncut, n)
	return api.OK
}

func (m *model) sync() api.Errno {
	m.safeFile, m.safeCell, m.uncut = m.file, m.cell, len(m.file)
	return api.OK
}

// left is the file behind a crash, by the words of D2, one behind the other.
func (m *model) left(keep int, torn bool) string {
	same := len(m.file)
	for !strings.HasPrefix(m.safeFile, m.file[:same]) {
		same--
	}
	if len(m.file) <= same {
		if keep < 1 {
			return m.safeFile
		}
		return m.file
	}
	if keep < 1 && len(m.safeFile) > same {
		return m.safeFile
	}
	behind := m.file[same:]
	if keep < 0 {
		keep = 0
	}
	if keep < len(behind) {
		behind = behind[:keep]
	}
	if torn && behind != "" {
		last := behind[len(behind)-1]
		behind = behind[:len(behind)-1] + string([]byte{last - last%2 + (last+1)%2})
	}
	return m.file[:same] + behind
}

func (m *model) crash(s step) *model {
	c := &model{file: m.left(s.n, s.torn), cell: m.safeCell}
	if s.cell {
		c.cell = m.cell
	}
	c.sync()
	return c
}

// told asks for all, twice, and writes into what was told, and behind it: the disk must not change by that.
func (m *model) told(d *disk.Disk) string {
	for range 2 {
		file, cell := d.File(), d.Cell()
		dirty := m.file != m.safeFile || m.cell != m.safeCell
		if string(file) != m.file || string(cell) != m.cell || d.Dirty() != dirty {
			return fmt.Sprintf("P6.1: %q, %q, %v, not %q, %q, %v", file, cell, d.Dirty(), m.file, m.cell, dirty)
		}
		for _, b := range [][]byte{file, cell} {
			b = b[:cap(b)]
			for i := range b {
				b[i] = '#'
			}
		}
	}
	return ""
}

// handed makes a call with bytes that have some more behind them, and changes all of them afterwards.
func handed(text string, call func([]byte) api.Errno) (api.Errno, string) {
	whole := []byte(text + "behind")
	e := call(whole[:len(text)])
	if string(whole) != text+"behind" {
		return e, fmt.Sprintf("rule 4: written into: %q", whole)
	}
	for i := range whole {
		whole[i] = '*'
	}
	return e, ""
}

// take makes a step on both, and tells what is not as it should be.
func (m *model) take(d *disk.Disk, s step) string {
	got, want, fault := api.OK, api.OK, ""
	switch s.kind {
	case 'a':
		got, fault = handed(s.text, d.Append)
		m.file += s.text
	case 'c':
		got, want = d.Cut(s.n), m.cut(s.n)
	case 's':
		got, fault = handed(s.text, d.Set)
		m.cell = s.text
	case 'y':
		got, want = d.Sync(), m.sync()
	}
	if got != want {
		return fmt.Sprintf("P6.1: %v, not %v", got, want)
	}
	if fault != "" {
		return fault
	}
	return m.told(d)
}

// fall crashes both, and tells what is not as it should be.
func (m *model) fall(d *disk.Disk, s step) (*disk.Disk, *model, string) {
	c, n := d.Crash(s.n, s.torn, s.cell), m.crash(s)
	if c == nil {
		return nil, nil, "P6.1: no disk"
	}
	if fault := n.told(c); fault != "" {
		return nil, nil, fault
	}
	if !bytes.HasPrefix(c.File(), []byte(m.safeFile[:m.uncut])) || !s.cell && string(c.Cell()) != m.safeCell {
		return nil, nil, fmt.Sprintf("P6.2: %q, %q of %q, %d, %q", c.File(), c.Cell(), m.safeFile, m.uncut, m.safeCell)
	}
	return c, n, m.told(d)
}

// pair is a disk, and the one of texts that it must be like.
type pair struct {
	d *disk.Disk
	m *model
}

// run makes the steps on a new disk, and on what its crashes leave; the disks ahead of them must stay. Then it tries all crashes.
func run(t *testing.T, script []step) {
	t.Helper()
	now := pair{disk.New(), &model{}}
	var ahead []pair
	for i, s := range script {
		fault := ""
		if s.kind == 'x' {
			ahead = append(ahead, now)
			now.d, now.m, fault = now.m.fall(now.d, s)
		} else {
			fault = now.m.take(now.d, s)
		}
		if fault != "" {
			t.Fatalf("%v: %s", script[:i+1], fault)
		}
	}
	for _, p := range append(ahead, now) {
		for _, s := range crashes(len(p.m.file) + 1) {
			if _, _, fault := p.m.fall(p.d, s); fault != "" {
				t.Fatalf("%v, then %v: %s", script, s, fault)
			}
		}
	}
}

// crashes are those that keep up to that many bytes.
func crashes(keep int) []step {
	var out []step
	for n := -1; n <= keep; n++ {
		out = append(out, step{kind: 'x', n: n}, step{kind: 'x', n: n, torn: true}, step{kind: 'x', n: n, cell: true}, step{kind: 'x', n: n, torn: true, cell: true})
	}
	return out
}

// steps are short calls, right ones and wrong ones.
func steps() []step {
	out := []step{{kind: 'y'}}
	for _, text := range []string{"", "a", "b", "ab"} {
		out = append(out, step{kind: 'a', text: text})
	}
	for _, n := range []int{-1, 0, 1, 2, 5} {
		out = append(out, step{kind: 'c', n: n})
	}
	for _, text := range []string{"", "one"} {
		out = append(out, step{kind: 's', text: text})
	}
	return append(out, step{kind: 'x'}, step{kind: 'x', n: 1, torn: true}, step{kind: 'x', n: 9, cell: true})
}

func TestAllShortScripts(t *testing.T) { // P6.1, P6.2
	all := steps()
	for _, a := range all {
		for _, b := range all {
			for _, c := range all {
				run(t, []step{a, b, c})
				run(t, []step{{kind: 'a', text: "aba"}, {kind: 's', text: "two"}, {kind: 'y'}, a, b, c})
			}
		}
	}
}

func TestLongScripts(t *testing.T) { // P6.1, P6.2
	r := rand.New(rand.NewPCG(6, 6)) // the same numbers in each run
	text := func(n int) string {
		b := make([]byte, r.IntN(n))
		for i := range b {
			b[i] = "ab"[r.IntN(2)]
		}
		return string(b)
	}
	for range 1000 {
		var script []step
		for range 60 {
			switch r.IntN(12) {
			case 0, 1, 2, 3, 4:
				script = append(script, step{kind: 'a', text: text(6)})
			case 5, 6, 7:
				script = append(script, step{kind: 'c', n: r.IntN(14) - 1})
			case 8, 9:
				script = append(script, step{kind: 's', text: text(4)})
			case 10:
				script = append(script, step{kind: 'y'})
			default:
				script = append(script, step{kind: 'x', n: r.IntN(8) - 1, torn: r.IntN(2) == 0, cell: r.IntN(2) == 0})
			}
		}
		run(t, script)
	}
}

func TestTheSameAgain(t *testing.T) { // P2: a crash hangs on the calls ahead of it alone, not on other crashes
	d := made(t, "safe", 2, "xyz")
	for range 3 {
		for _, s := range crashes(5) {
			one, two := d.Crash(s.n, s.torn, s.cell), d.Crash(s.n, s.torn, s.cell)
			if !bytes.Equal(one.File(), two.File()) || !bytes.Equal(one.Cell(), two.Cell()) || one.Dirty() || two.Dirty() {
				t.Fatalf("%v: %q, %q", s, one.File(), two.File())
			}
		}
	}
	is(t, d, "saxyz", "", true)
}
