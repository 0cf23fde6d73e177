package journal_test

import (
	"encoding/binary"
	"fmt"
	"hash/crc32"
	"math"
	"math/rand/v2"
	"slices"
	"strings"
	"testing"

	"wampum/api"
	"wampum/disk"
	"wampum/journal"
)

const (
	longest  = api.MaxBytes - 20 // bytes of a record, and of data
	diskFull = 1 << 24           // bytes of a disk's file
)

// number and text are bytes by the words of chapter 1, frame by those of chapter 2: not by the packages that the journal calls.
func number(v int) string {
	return string(binary.AppendUvarint(nil, uint64(v)))
}

func text(s string) string {
	return number(len(s)) + s
}

func frame(s string) string {
	b := binary.BigEndian.AppendUint32(nil, uint32(len(s)))
	b = binary.BigEndian.AppendUint32(b, crc32.ChecksumIEEE([]byte(s)))
	return string(b) + s
}

// more, first and based are the frames of the three kinds of changes.
func more(s string) string {
	return frame(number(1) + text(s))
}

func first(n int) string {
	return frame(number(2) + number(n))
}

func based(index int, data string) string {
	return frame(number(3) + number(index) + text(data))
}

// cellOf is the cell of hard numbers.
func cellOf(h journal.Hard) string {
	return frame(number(h.Term) + number(h.Vote) + number(h.Boot))
}

// look is all that a journal tells.
type look struct {
	base    int
	data    string
	records []string
	hard    journal.Hard
}

func (l look) String() string {
	return fmt.Sprintf("base %d, %.40q, %d records %.200q, hard %v", l.base, l.data, len(l.records), l.records, l.hard)
}

func (l look) last() int {
	return l.base + len(l.records)
}

func (l look) equal(m look) bool {
	return l.base == m.base && l.data == m.data && l.hard == m.hard && slices.Equal(l.records, m.records)
}

// told asks a journal for all, twice, and writes into what it told, and behind that: the journal must not change by that.
func told(j *journal.Journal, want look) string {
	for range 2 {
		got := look{hard: j.Hard()}
		records := j.Records()
		for _, r := range records {
			got.records = append(got.records, string(r))
		}
		base, data := j.Base()
		got.base, got.data = base, string(data)
		if !got.equal(want) || j.Last() != want.last() {
			return fmt.Sprintf("%v, last %d, not %v, last %d", got, j.Last(), want, want.last())
		}
		for i, r := range append(records, data) {
			r = r[:cap(r)]
			for k := range r {
				r[k] = '#' + byte(i)
			}
		}
		for i, r := range append(records, data) {
			if r = r[:cap(r)]; strings.Trim(string(r), string([]byte{'#' + byte(i)})) != "" {
				return fmt.Sprintf("rule 4: two answers share memory: %.40q", r)
			}
		}
		clear(records[:cap(records)])
	}
	return ""
}

// is makes sure of all that a journal tells.
func is(t *testing.T, j *journal.Journal, want look) {
	t.Helper()
	if j == nil {
		t.Fatalf("no journal, not %v", want)
	}
	if fault := told(j, want); fault != "" {
		t.Fatal(fault)
	}
}

// ok makes sure of what a call answered.
func ok(t *testing.T, got, want api.Errno) {
	t.Helper()
	if got != want {
		t.Fatalf("%v, not %v", got, want)
	}
}

// on is a disk with that file and that cell, safe or not.
func on(t *testing.T, file, cell string, safe bool) *disk.Disk {
	t.Helper()
	d := disk.New()
	ok(t, d.Append([]byte(file)), api.OK)
	ok(t, d.Set([]byte(cell)), api.OK)
	if safe {
		ok(t, d.Sync(), api.OK)
	}
	return d
}

// open opens a journal that there is.
func open(t *testing.T, d *disk.Disk) *journal.Journal {
	t.Helper()
	j, e := journal.Open(d)
	ok(t, e, api.OK)
	if j == nil {
		t.Fatal("no journal")
	}
	return j
}

// has makes sure of what is on a disk, and of what a journal opened anew on it tells.
func has(t *testing.T, d *disk.Disk, file, cell string, want look) {
	t.Helper()
	if got := string(d.File()); got != file {
		t.Fatalf("file %.200q, not %.200q", got, file)
	}
	if got := string(d.Cell()); got != cell {
		t.Fatalf("cell %q, not %q", got, cell)
	}
	dirty := d.Dirty()
	is(t, open(t, d), want)
	if string(d.File()) != file || string(d.Cell()) != cell || d.Dirty() != dirty {
		t.Fatal("a right journal was changed when it was opened")
	}
}

func TestOpenOfAnEmptyDisk(t *testing.T) { // P7.1: at first all is 0, and nothing
	d := disk.New()
	is(t, open(t, d), look{})
	has(t, d, "", "", look{})
	if d.Dirty() {
		t.Error("something was put on the disk")
	}
}

func TestOpenOfNoDisk(t *testing.T) { // P7.1
	if j, e := journal.Open(nil); j != nil || e != api.ErrArg {
		t.Errorf("%v, %v", j, e)
	}
}

func TestScript(t *testing.T) { // P7.1: what is told behind each call, what it lays on the disk, and what is told when that is opened anew
	d := disk.New()
	j := open(t, d)
	file, cell := "", ""
	now := look{}
	behind := func(e api.Errno, change string) {
		t.Helper()
		ok(t, e, api.OK)
		file += change
		is(t, j, now)
		has(t, d, file, cell, now)
	}
	for _, s := range []string{"one", "two", "three", "", "five"} {
		now.records = append(now.records, s)
		behind(j.Append([]byte(s)), more(s))
	}
	now.records = now.records[:4]
	behind(j.Cut(4), first(4))
	now.hard, cell = journal.Hard{Term: 4, Vote: 2, Boot: 1}, cellOf(journal.Hard{Term: 4, Vote: 2, Boot: 1})
	behind(j.Set(now.hard), "")
	now.base, now.data, now.records = 2, "base", []string{"three", ""}
	behind(j.Rebase(2, []byte("base")), based(2, "base"))
	now.records = []string{"three", "", "FIVE"}
	behind(j.Append([]byte("FIVE")), more("FIVE"))
	now.records = []string{"three"}
	behind(j.Cut(3), first(1))
	behind(j.Sync(), "")
	if d.Dirty() {
		t.Error("Sync: not all is safe")
	}
	now.base, now.data, now.records = 9, "", nil
	behind(j.Rebase(9, nil), based(9, ""))
	now.records = []string{"ten"}
	behind(j.Append([]byte("ten")), more("ten"))
	now.hard, cell = journal.Hard{Boot: 2}, cellOf(journal.Hard{Boot: 2})
	behind(j.Set(now.hard), "")
	now.base, now.data, now.records = 3, "less", nil
	behind(j.Rebase(3, []byte("less")), based(3, "less"))
}

func TestBytesWrittenOut(t *testing.T) { // P7.1: the frames' own bytes, so that the helpers of these tests are held as well
	d := disk.New()
	j := open(t, d)
	ok(t, j.Append([]byte("a")), api.OK)
	ok(t, j.Cut(0), api.OK)
	ok(t, j.Rebase(300, []byte("b")), api.OK)
	ok(t, j.Set(journal.Hard{Term: 300, Vote: 2, Boot: 1}), api.OK)
	var records []string
	rest := string(d.File())
	for _, size := range []int{3, 2, 5} {
		if len(rest) < 8+size || rest[:4] != "\x00\x00\x00"+string([]byte{byte(size)}) {
			t.Fatalf("%q", rest)
		}
		records = append(records, rest[8:8+size])
		rest = rest[8+size:]
	}
	if !slices.Equal(records, []string{"\x01\x01a", "\x02\x00", "\x03\xac\x02\x01b"}) || rest != "" {
		t.Errorf("%q, %q", records, rest)
	}
	if c := string(d.Cell()); len(c) != 12 || c[8:] != "\xac\x02\x02\x01" {
		t.Errorf("%q", c)
	}
}

// three is a journal with the base 5, and three records behind it, on a disk where all is safe.
func three(t *testing.T) (*journal.Journal, *disk.Disk, string, look) {
	t.Helper()
	file := based(5, "base") + more("six") + more("seven") + more("eight")
	h := journal.Hard{Term: 7, Vote: 3, Boot: 2}
	d := on(t, file, cellOf(h), true)
	return open(t, d), d, file, look{5, "base", []string{"six", "seven", "eight"}, h}
}

func TestCut(t *testing.T) { // P7.1
	for _, c := range []struct {
		index int
		want  api.Errno
		stay  int
	}{
		{5, api.OK, 0}, {6, api.OK, 1}, {7, api.OK, 2}, {8, api.OK, 3},
		{4, api.ErrJournal, 3}, {9, api.ErrJournal, 3}, {0, api.ErrJournal, 3}, {-1, api.ErrJournal, 3}, {3, api.ErrJournal, 3},
		{api.MaxNumber, api.ErrJournal, 3}, {math.MaxInt, api.ErrJournal, 3}, {math.MinInt, api.ErrJournal, 3},
	} {
		j, d, file, now := three(t)
		ok(t, j.Cut(c.index), c.want)
		if c.want == api.OK {
			file += first(c.stay)
		}
		now.records = now.records[:c.stay]
		is(t, j, now)
		if d.Dirty() != (c.want == api.OK) {
			t.Errorf("Cut(%d): dirty %v", c.index, d.Dirty())
		}
		has(t, d, file, cellOf(now.hard), now)
		ok(t, j.Append([]byte("more")), api.OK)
		now.records = append(now.records, "more")
		is(t, j, now)
		has(t, d, file+more("more"), cellOf(now.hard), now)
	}
}

func TestCutOfAnEmptyJournal(t *testing.T) { // P7.1
	d := disk.New()
	j := open(t, d)
	ok(t, j.Cut(1), api.ErrJournal)
	ok(t, j.Cut(-1), api.ErrJournal)
	has(t, d, "", "", look{})
	ok(t, j.Cut(0), api.OK)
	has(t, d, first(0), "", look{})
}

func TestRebase(t *testing.T) { // P7.1
	for _, c := range []struct {
		index int
		want  api.Errno
		stay  int // of the last ones
	}{
		{5, api.OK, 3}, {6, api.OK, 2}, {7, api.OK, 1}, {8, api.OK, 0}, {9, api.OK, 0}, {4, api.OK, 0}, {1, api.OK, 0}, {0, api.OK, 0},
		{10, api.OK, 0}, {api.MaxNumber - 1, api.OK, 0}, {api.MaxNumber, api.OK, 0},
		{-1, api.ErrJournal, 3}, {api.MaxNumber + 1, api.ErrJournal, 3}, {math.MaxInt, api.ErrJournal, 3}, {math.MinInt, api.ErrJournal, 3},
	} {
		for _, data := range []string{"", "new", "base"} {
			j, d, file, now := three(t)
			ok(t, j.Rebase(c.index, []byte(data)), c.want)
			if c.want == api.OK {
				file += based(c.index, data)
				now.base, now.data = c.index, data
			}
			now.records = now.records[3-c.stay:]
			is(t, j, now)
			if d.Dirty() != (c.want == api.OK) {
				t.Errorf("Rebase(%d): dirty %v", c.index, d.Dirty())
			}
			has(t, d, file, cellOf(now.hard), now)
			ok(t, j.Append([]byte("more")), api.OK)
			now.records = append(now.records, "more")
			is(t, j, now)
			has(t, d, file+more("more"), cellOf(now.hard), now)
		}
	}
}

func TestBehindTheGreatestBase(t *testing.T) { // P7.1: records are numbered on behind a base of MaxNumber
	d := disk.New()
	j := open(t, d)
	ok(t, j.Rebase(api.MaxNumber, []byte("far")), api.OK)
	ok(t, j.Append([]byte("a")), api.OK)
	ok(t, j.Append([]byte("b")), api.OK)
	file := based(api.MaxNumber, "far") + more("a") + more("b")
	now := look{api.MaxNumber, "far", []string{"a", "b"}, journal.Hard{}}
	is(t, j, now)
	ok(t, j.Rebase(api.MaxNumber+1, nil), api.ErrJournal)
	ok(t, j.Cut(api.MaxNumber-1), api.ErrJournal)
	ok(t, j.Cut(api.MaxNumber+3), api.ErrJournal)
	has(t, d, file, "", now)
	ok(t, j.Cut(api.MaxNumber+1), api.OK)
	now.records = now.records[:1]
	is(t, j, now)
	has(t, d, file+first(1), "", now)
	ok(t, j.Rebase(api.MaxNumber, nil), api.OK)
	now.data = ""
	is(t, j, now)
	has(t, d, file+first(1)+based(api.MaxNumber, ""), "", now)
}

func TestLongestBytes(t *testing.T) { // P7.1: of a record, and of data
	long := strings.Repeat("long", longest/4)
	if len(long) != longest {
		t.Fatal(len(long))
	}
	for _, size := range []int{longest + 1, api.MaxBytes, 2 * api.MaxBytes} {
		j, d, file, now := three(t)
		ok(t, j.Append(make([]byte, size)), api.ErrJournal)
		ok(t, j.Rebase(6, make([]byte, size)), api.ErrJournal)
		ok(t, j.Rebase(api.MaxNumber, make([]byte, size)), api.ErrJournal)
		ok(t, j.Rebase(-1, make([]byte, size)), api.ErrJournal)
		is(t, j, now)
		if d.Dirty() {
			t.Error("dirty")
		}
		has(t, d, file, cellOf(now.hard), now)
	}
	for _, size := range []int{0, 1, 127, 128, longest - 1, longest} {
		j, d, file, now := three(t)
		ok(t, j.Append([]byte(long[:size])), api.OK)
		now.records = append(now.records, long[:size])
		is(t, j, now)
		has(t, d, file+more(long[:size]), cellOf(now.hard), now)
		for _, index := range []int{6, 9, api.MaxNumber} {
			j, d, file, now := three(t)
			ok(t, j.Rebase(index, []byte(long[:size])), api.OK)
			now.records = now.records[min(index-5, 3):]
			now.base, now.data = index, long[:size]
			is(t, j, now)
			has(t, d, file+based(index, long[:size]), cellOf(now.hard), now)
		}
	}
}

func TestSet(t *testing.T) { // P7.1
	const most = api.MaxNumber
	for _, c := range []struct {
		h    journal.Hard
		want api.Errno
	}{
		{journal.Hard{}, api.OK}, {journal.Hard{Term: 1}, api.OK}, {journal.Hard{Vote: 1}, api.OK}, {journal.Hard{Boot: 1}, api.OK},
		{journal.Hard{Term: 1, Vote: 2, Boot: 3}, api.OK}, {journal.Hard{Term: 127, Vote: 128, Boot: 300}, api.OK},
		{journal.Hard{Term: most}, api.OK}, {journal.Hard{Vote: most}, api.OK}, {journal.Hard{Boot: most}, api.OK},
		{journal.Hard{Term: most, Vote: most, Boot: most}, api.OK}, {journal.Hard{Term: most - 1, Vote: most, Boot: 0}, api.OK},
		{journal.Hard{Term: -1}, api.ErrJournal}, {journal.Hard{Vote: -1}, api.ErrJournal}, {journal.Hard{Boot: -1}, api.ErrJournal},
		{journal.Hard{Term: most + 1}, api.ErrJournal}, {journal.Hard{Vote: most + 1}, api.ErrJournal}, {journal.Hard{Boot: most + 1}, api.ErrJournal},
		{journal.Hard{Term: math.MinInt, Vote: 1, Boot: 1}, api.ErrJournal}, {journal.Hard{Term: 1, Vote: math.MaxInt, Boot: 1}, api.ErrJournal},
		{journal.Hard{Term: 1, Vote: 1, Boot: math.MaxInt}, api.ErrJournal}, {journal.Hard{Term: -1, Vote: -1, Boot: -1}, api.ErrJournal},
	} {
		j, d, file, now := three(t)
		ok(t, j.Set(c.h), c.want)
		if c.want == api.OK {
			now.hard = c.h
		}
		is(t, j, now)
		if d.Dirty() != (c.want == api.OK) {
			t.Errorf("Set(%v): dirty %v", c.h, d.Dirty())
		}
		has(t, d, file, cellOf(now.hard), now)
	}
}

func TestSync(t *testing.T) { // P7.1: it is the disk's: nothing else makes anything safe
	j, d, file, now := three(t)
	old := now
	ok(t, j.Append([]byte("nine")), api.OK)
	ok(t, j.Set(journal.Hard{Term: 8}), api.OK)
	has(t, d.Crash(0, false, false), file, cellOf(old.hard), old)
	ok(t, j.Sync(), api.OK)
	now.records, now.hard = append(now.records, "nine"), journal.Hard{Term: 8}
	is(t, j, now)
	has(t, d.Crash(0, false, false), file+more("nine"), cellOf(now.hard), now)
	ok(t, j.Sync(), api.OK)
	is(t, j, now)
}

// ends are files that a right file may go on with, from where on they are no changes for a journal with three records.
func ends() map[string]string {
	spoilt := []byte(more("spoilt"))
	spoilt[len(spoilt)-1] ^= 1
	sum := []byte(more("sum"))
	sum[4] ^= 0x80
	size := []byte(more("size"))
	size[3]++
	return map[string]string{
		"a spoilt record":              string(spoilt),
		"a spoilt sum":                 string(sum),
		"a length of one more":         string(size),
		"one byte of a frame":          more("short")[:1],
		"a frame's head":               more("short")[:8],
		"all but a frame's last byte":  more("short")[:len(more("short"))-1],
		"a frame without bytes":        frame(""),
		"noughts":                      strings.Repeat("\x00", 40),
		"a frame of too many bytes":    frame(strings.Repeat("\x01", api.MaxBytes+1)),
		"a kind of 0":                  frame(number(0)),
		"a kind of 0 with a text":      frame(number(0) + text("a")),
		"a kind of 4":                  frame(number(4)),
		"a kind of 4 with all":         frame(number(4) + number(1) + text("a")),
		"a kind of 9":                  frame("\x09\x09"),
		"a kind of 129":                frame(number(129) + text("a")),
		"a kind of 257":                frame(number(257) + text("a")),
		"a kind of 2^32 + 1":           frame(number(1<<32+1) + text("a")),
		"a kind above MaxNumber":       frame(number(api.MaxNumber+1) + text("a")),
		"a kind that is no number":     frame("\x80"),
		"a kind in more bytes":         frame("\x81\x00" + text("a")),
		"a record without a text":      frame(number(1)),
		"a record that is cut short":   frame(number(1) + text("abc")[:3]),
		"a record, and a byte":         frame(number(1) + text("abc") + "\x00"),
		"a record, and a change":       frame(number(1) + text("abc") + number(2) + number(0)),
		"a record of a number":         frame(number(1) + number(1)),
		"a text's length in more":      frame(number(1) + "\x83\x00abc"),
		"first ones without a number":  frame(number(2)),
		"first ones, half a number":    frame(number(2) + "\x80"),
		"first ones, and a byte":       frame(number(2) + number(1) + "\x00"),
		"first ones, and a text":       frame(number(2) + number(1) + text("a")),
		"first ones in more bytes":     frame(number(2) + "\x81\x00"),
		"one more than there are":      first(4),
		"the last one's index":         first(8),
		"far more than there are":      first(api.MaxNumber),
		"first ones above MaxNumber":   first(api.MaxNumber + 1),
		"more than all numbers":        first(math.MaxInt),
		"a base without a number":      frame(number(3)),
		"a base without a text":        frame(number(3) + number(1)),
		"a base, its data cut short":   frame(number(3) + number(6) + text("abc")[:3]),
		"a base, and a byte":           frame(number(3) + number(6) + text("abc") + "\x00"),
		"a base of a text alone":       frame(number(3) + text("abc")),
		"a base above MaxNumber":       based(api.MaxNumber+1, "abc"),
		"a base above all that may be": based(math.MaxInt, "abc"),
		"a base in more bytes":         frame(number(3) + "\x86\x00" + text("abc")),
	}
}

func TestWhatIsBehindIsCutOff(t *testing.T) { // P7.1: from where on there are no changes, and the disk is synced then
	_, _, file, now := three(t)
	for name, end := range ends() {
		for _, behind := range []string{"", more("behind"), based(6, "behind") + first(0), "junk"} {
			for _, safe := range []bool{false, true} {
				d := on(t, file+end+behind, cellOf(now.hard), safe)
				j := open(t, d)
				if fault := told(j, now); fault != "" || string(d.File()) != file || d.Dirty() {
					t.Fatalf("%s: %s; %q, dirty %v", name, fault, d.File(), d.Dirty())
				}
				has(t, d.Crash(0, false, false), file, cellOf(now.hard), now)
				ok(t, j.Append([]byte("nine")), api.OK)
				next := now
				next.records = append(slices.Clone(now.records), "nine")
				is(t, j, next)
				has(t, d, file+more("nine"), cellOf(now.hard), next)
			}
		}
	}
}

func TestAllIsCutOff(t *testing.T) { // P7.1: also from the file's beginning on
	for name, end := range ends() {
		d := on(t, end+more("behind"), "", false)
		j := open(t, d)
		if fault := told(j, look{}); fault != "" || len(d.File()) != 0 || d.Dirty() {
			t.Errorf("%s: %s; %q, dirty %v", name, fault, d.File(), d.Dirty())
		}
	}
	has(t, on(t, first(0), "", true), first(0), "", look{})
	d := on(t, more("one")+first(2)+more("two"), "", true)
	is(t, open(t, d), look{records: []string{"one"}})
	has(t, d, more("one"), "", look{records: []string{"one"}})
}

func TestHowManyThereAre(t *testing.T) { // P7.1: is counted in the records that stay, not in all that came
	for _, c := range []struct {
		file string
		n    int
	}{
		{more("a") + more("b") + first(1), 1},
		{more("a") + more("b") + first(0), 0},
		{more("a") + more("b") + based(1, ""), 1},
		{more("a") + more("b") + based(2, ""), 0},
		{more("a") + more("b") + based(9, ""), 0},
		{based(9, "") + more("a") + more("b"), 2},
		{based(9, "") + more("a") + more("b") + based(9, "x"), 2},
		{based(9, "") + more("a") + more("b") + based(8, ""), 0},
	} {
		for n := range 12 {
			d := on(t, c.file+first(n), "", true)
			j := open(t, d)
			stay, file := min(c.n, n), c.file
			if n <= c.n {
				file += first(n)
			}
			if len(j.Records()) != stay || string(d.File()) != file {
				t.Errorf("%q, %d: %q, %q", c.file, n, j.Records(), d.File())
			}
		}
	}
}

func TestTheDiskIsNotSynced(t *testing.T) { // P7.1: if nothing was cut off
	_, _, file, now := three(t)
	d := on(t, file, cellOf(now.hard), false)
	is(t, open(t, d), now)
	if !d.Dirty() {
		t.Error("the disk was synced")
	}
	has(t, d.Crash(0, false, false), "", "", look{})
	d = on(t, "", cellOf(now.hard), false)
	is(t, open(t, d), look{hard: now.hard})
	if !d.Dirty() {
		t.Error("the disk was synced")
	}
}

func TestCells(t *testing.T) { // P7.1
	right := cellOf(journal.Hard{Term: 7, Vote: 3, Boot: 2})
	for _, h := range []journal.Hard{{}, {Term: 7, Vote: 3, Boot: 2}, {Term: api.MaxNumber, Vote: api.MaxNumber, Boot: api.MaxNumber}} {
		has(t, on(t, more("a"), cellOf(h), true), more("a"), cellOf(h), look{records: []string{"a"}, hard: h})
	}
	has(t, on(t, more("a"), "", true), more("a"), "", look{records: []string{"a"}})
	spoilt := []byte(right)
	spoilt[len(spoilt)-1] ^= 1
	for _, cell := range []string{
		"junk", "\x00", strings.Repeat("\x00", 11), right[:1], right[:8], right[:len(right)-1], string(spoilt),
		right + "\x00", right + right, "\x00" + right, frame(""), frame("\x00"), frame("\x00\x00"), frame("\x00\x00\x00\x00"),
		frame("\x01\x01\x80"), frame("\x01\x01\x81\x00"), frame("\x80\x00\x01\x01"), frame("\x01\x01\x01\x00"),
		frame("abc" + text("abc")), more("ab"), based(1, "x"), right[8:],
		cellOf(journal.Hard{Term: api.MaxNumber + 1}), cellOf(journal.Hard{Vote: api.MaxNumber + 1}), cellOf(journal.Hard{Boot: api.MaxNumber + 1}),
		cellOf(journal.Hard{Term: math.MaxInt, Vote: 1, Boot: 1}), cellOf(journal.Hard{Term: -1}), cellOf(journal.Hard{Boot: -1}),
		frame(strings.Repeat("\x01", api.MaxBytes)), frame(strings.Repeat("\x01", api.MaxBytes+1)),
	} {
		for _, file := range []string{"", more("a"), more("a") + "junk", "junk"} {
			for _, safe := range []bool{false, true} {
				d := on(t, file, cell, safe)
				if j, e := journal.Open(d); j != nil || e != api.ErrJournal {
					t.Errorf("%q: %v, %v", cell, j, e)
				}
				if string(d.File()) != file || string(d.Cell()) != cell || d.Dirty() == safe {
					t.Errorf("%q: the disk was changed", cell)
				}
			}
		}
	}
}

func TestTextsOfTheFile(t *testing.T) { // P7.1: a text of the file may have as many bytes as its frame takes
	for _, size := range []int{longest, longest + 1, api.MaxBytes - 10} {
		long := strings.Repeat("x", size)
		file := more(long) + based(0, long)
		has(t, on(t, file, "", true), file, "", look{data: long, records: []string{long}})
	}
}

func TestFullDisk(t *testing.T) { // P7.1, rule 3: what the disk does not take is not done
	d := disk.New()
	j := open(t, d)
	var now look
	long := strings.Repeat("f", longest)
	size := 0
	for size+len(more(long)) <= diskFull {
		ok(t, j.Append([]byte(long)), api.OK)
		now.records = append(now.records, long)
		size += len(more(long))
	}
	rest := diskFull - size
	for size+len(more(long[:rest])) > diskFull {
		rest--
	}
	ok(t, j.Append([]byte(long[:rest])), api.OK)
	now.records = append(now.records, long[:rest])
	size += len(more(long[:rest]))
	ok(t, j.Sync(), api.OK)
	ok(t, j.Append([]byte("a")), api.ErrDisk)
	ok(t, j.Rebase(1, nil), api.ErrDisk)
	ok(t, j.Cut(0), api.ErrDisk)
	is(t, j, now)
	if len(d.File()) != size || d.Dirty() {
		t.Errorf("%d bytes, %d before, dirty %v", len(d.File()), size, d.Dirty())
	}
	ok(t, j.Append(make([]byte, longest+1)), api.ErrJournal)
	ok(t, j.Cut(-1), api.ErrJournal)
	ok(t, j.Rebase(-1, nil), api.ErrJournal)
	now.hard = journal.Hard{Term: 1}
	ok(t, j.Set(now.hard), api.OK)
	is(t, j, now)
	is(t, open(t, d), now)
}

func TestNil(t *testing.T) { // P7.1, P1: ErrArg comes ahead of all else
	var j *journal.Journal
	for _, b := range [][]byte{nil, {}, []byte("a"), make([]byte, longest+1)} {
		ok(t, j.Append(b), api.ErrArg)
		ok(t, j.Rebase(0, b), api.ErrArg)
	}
	for _, n := range []int{math.MinInt, -1, 0, 1, api.MaxNumber, api.MaxNumber + 1, math.MaxInt} {
		ok(t, j.Cut(n), api.ErrArg)
		ok(t, j.Rebase(n, nil), api.ErrArg)
		ok(t, j.Set(journal.Hard{Term: n}), api.ErrArg)
	}
	ok(t, j.Sync(), api.ErrArg)
	base, data := j.Base()
	if len(j.Records()) != 0 || base != 0 || len(data) != 0 || j.Hard() != (journal.Hard{}) || j.Last() != 0 {
		t.Errorf("%q, %d, %q, %v, %d", j.Records(), base, data, j.Hard(), j.Last())
	}
}

func TestJournalsOfTheirOwn(t *testing.T) { // P2
	c, d := disk.New(), disk.New()
	a, b := open(t, c), open(t, d)
	ok(t, a.Append([]byte("a")), api.OK)
	ok(t, a.Set(journal.Hard{Term: 1}), api.OK)
	is(t, b, look{})
	ok(t, b.Append([]byte("b")), api.OK)
	ok(t, b.Rebase(1, []byte("base")), api.OK)
	has(t, c, more("a"), cellOf(journal.Hard{Term: 1}), look{records: []string{"a"}, hard: journal.Hard{Term: 1}})
	has(t, d, more("b")+based(1, "base"), "", look{base: 1, data: "base"})
	is(t, a, look{records: []string{"a"}, hard: journal.Hard{Term: 1}})
	is(t, b, look{base: 1, data: "base"})
}

// step is a call: a Append, c Cut, r Rebase, s Set, y Sync, o Open anew, x a crash and Open.
type step struct {
	kind       byte
	n          int
	text       string
	hard       journal.Hard
	torn, cell bool
}

func (s step) String() string {
	switch s.kind {
	case 'a':
		return fmt.Sprintf("Append(%q)", s.text)
	case 'c':
		return fmt.Sprintf("Cut(%d)", s.n)
	case 'r':
		return fmt.Sprintf("Rebase(%d, %q)", s.n, s.text)
	case 's':
		return fmt.Sprintf("Set(%v)", s.hard)
	case 'y':
		return "Sync"
	case 'o':
		return "Open"
	}
	return fmt.Sprintf("Crash(%d, %v, %v)", s.n, s.torn, s.cell)
}

// moment is what a journal was, when its file had so many bytes.
type moment struct {
	size int
	look
}

// model is a journal of texts: its file, what it was at each moment since it was synced last (the last one is now), its hard numbers now and when it was synced last, and whether they were set.
type model struct {
	file           string
	moments        []moment
	hard, safeHard journal.Hard
	set, safeSet   bool
}

func newModel() *model {
	return &model{moments: []moment{{}}}
}

// now is what the journal is; its records are in memory of their own.
func (m *model) now() look {
	l := m.moments[len(m.moments)-1].look
	l.records = slices.Clone(l.records)
	l.hard = m.hard
	return l
}

// goOn has a change more in the file, and what it makes as one moment more.
func (m *model) goOn(change string, l look) api.Errno {
	m.file += change
	m.moments = append(m.moments, moment{len(m.file), l})
	return api.OK
}

func (m *model) cut(index int) api.Errno {
	l := m.now()
	if index < l.base || index > l.last() {
		return api.ErrJournal
	}
	for l.last() > index {
		l.records = l.records[:len(l.records)-1]
	}
	return m.goOn(first(index-l.base), l)
}

func (m *model) rebase(index int, data string) api.Errno {
	if index < 0 || index > api.MaxNumber {
		return api.ErrJournal
	}
	l := m.now()
	next := look{base: index, data: data}
	if index >= l.base && index <= l.last() {
		for i, r := range l.records {
			if l.base+1+i > index {
				next.records = append(next.records, r)
			}
		}
	}
	return m.goOn(based(index, data), next)
}

func (m *model) setHard(h journal.Hard) api.Errno {
	for _, n := range []int{h.Term, h.Vote, h.Boot} {
		if n < 0 || n > api.MaxNumber {
			return api.ErrJournal
		}
	}
	m.hard, m.set = h, true
	return api.OK
}

func (m *model) sync() api.Errno {
	m.safeHard, m.safeSet = m.hard, m.set
	m.moments = m.moments[len(m.moments)-1:]
	return api.OK
}

// cell is that of now.
func (m *model) cell() string {
	if !m.set {
		return ""
	}
	return cellOf(m.hard)
}

// crash is the journal behind a crash: as it was when its last whole change was made.
func (m *model) crash(s step) *model {
	safe := m.moments[0].size
	whole := safe + max(0, min(s.n, len(m.file)-safe))
	if s.torn && whole > safe {
		whole-- // the last byte is spoilt
	}
	at := m.moments[0]
	for _, then := range m.moments {
		if then.size <= whole {
			at = then
		}
	}
	c := &model{file: m.file[:at.size], moments: []moment{at}, hard: m.safeHard, set: m.safeSet}
	if s.cell {
		c.hard, c.set = m.hard, m.set
	}
	c.sync()
	return c
}

// handed makes a call with bytes that have some more behind them, and changes all of them afterwards.
func handed(text string, call func([]byte) api.Errno) (api.Errno, string) {
	whole := []byte(text + "behind")
	e := call(whole[:len(text)])
	if string(whole) != text+"behind" {
		return e, fmt.Sprintf("rule 4: written into: %q", whole)
	}
	for i := range whole {
		whole[i] = '*'
	}
	return e, ""
}

// pair is a journal on its disk, and the one of texts that it must be like.
type pair struct {
	d *disk.Disk
	j *journal.Journal
	m *model
}

// alike tells what of a pair is not alike.
func (p pair) alike() string {
	if p.j == nil {
		return "P7.1: no journal"
	}
	if fault := told(p.j, p.m.now()); fault != "" {
		return "P7.1: " + fault
	}
	if file, cell := string(p.d.File()), string(p.d.Cell()); file != p.m.file || cell != p.m.cell() {
		return fmt.Sprintf("P7.1: on the disk %q, %q, not %q, %q", file, cell, p.m.file, p.m.cell())
	}
	return ""
}

// opened is a pair with its journal opened anew.
func (p pair) opened() (pair, string) {
	j, e := journal.Open(p.d)
	p.j = j
	if e != api.OK {
		return p, fmt.Sprintf("P7.1: Open: %v", e)
	}
	return p, p.alike()
}

// fall is what a crash leaves, opened; and what is not as it should be.
func (p pair) fall(s step) (pair, string) {
	c, fault := pair{d: p.d.Crash(s.n, s.torn, s.cell), m: p.m.crash(s)}.opened()
	if fault != "" {
		return c, strings.Replace(fault, "P7.1", "P7.2", 1)
	}
	if c.d.Dirty() {
		return c, "P7.1: not synced"
	}
	for _, then := range p.m.moments {
		then.hard = c.j.Hard()
		if then.hard != p.m.safeHard && then.hard != p.m.hard {
			break
		}
		if told(c.j, then.look) == "" {
			return c, ""
		}
	}
	return c, "P7.2: it was never so since the last Sync"
}

// take makes a step on both, and tells what is not as it should be.
func (p pair) take(s step) (pair, string) {
	got, want, fault := api.OK, api.OK, ""
	switch s.kind {
	case 'a':
		got, fault = handed(s.text, p.j.Append)
		l := p.m.now()
		l.records = append(l.records, s.text)
		want = p.m.goOn(more(s.text), l)
	case 'c':
		got, want = p.j.Cut(s.n), p.m.cut(s.n)
	case 'r':
		got, fault = handed(s.text, func(b []byte) api.Errno { return p.j.Rebase(s.n, b) })
		want = p.m.rebase(s.n, s.text)
	case 's':
		got, want = p.j.Set(s.hard), p.m.setHard(s.hard)
	case 'y':
		got, want = p.j.Sync(), p.m.sync()
	case 'o':
		return p.opened()
	case 'x':
		return p.fall(s)
	}
	if got != want {
		return p, fmt.Sprintf("P7.1: %v, not %v", got, want)
	}
	if fault != "" {
		return p, fault
	}
	return p, p.alike()
}

// crashes are those that keep up to that many bytes.
func crashes(keep int) []step {
	var out []step
	for n := -1; n <= keep; n++ {
		for _, torn := range []bool{false, true} {
			out = append(out, step{kind: 'x', n: n, torn: torn}, step{kind: 'x', n: n, torn: torn, cell: true})
		}
	}
	return out
}

// tryCrashes tries all crashes of what is now: they must leave the disk and the journal as they are.
func (p pair) tryCrashes(t *testing.T, script []step) {
	t.Helper()
	for _, s := range crashes(len(p.m.file) - p.m.moments[0].size + 1) {
		_, fault := p.fall(s)
		if fault != "" {
			t.Fatalf("%v, then %v: %s", script, s, fault)
		}
	}
	if fault := p.alike(); fault != "" {
		t.Fatalf("%v, then crashes: %s", script, fault)
	}
}

// run makes the steps on a new disk, and tries all crashes behind each of the last ones.
func run(t *testing.T, script []step, tried int) {
	t.Helper()
	d := disk.New()
	p := pair{d, open(t, d), newModel()}
	for i, s := range script {
		next, fault := p.take(s)
		if fault != "" {
			t.Fatalf("%v: %s", script[:i+1], fault)
		}
		p = next
		if i >= len(script)-tried {
			p.tryCrashes(t, script[:i+1])
		}
	}
	if _, fault := p.opened(); fault != "" {
		t.Fatalf("%v: opened anew: %s", script, fault)
	}
}

func TestCrashesBehindEveryAct(t *testing.T) { // P7.2
	hard := func(term, vote, boot int) step {
		return step{kind: 's', hard: journal.Hard{Term: term, Vote: vote, Boot: boot}}
	}
	script := []step{
		{kind: 'a', text: "one"}, {kind: 'a', text: ""}, hard(1, 0, 1), {kind: 'a', text: "three"}, {kind: 'y'},
		{kind: 'c', n: 1}, {kind: 'a', text: "TWO"}, {kind: 'a', text: "THREE"}, hard(2, 1, 1), {kind: 'r', n: 2, text: "base"},
		{kind: 'c', n: 2}, {kind: 'y'}, {kind: 'r', n: 9, text: ""}, {kind: 'a', text: "ten"}, hard(api.MaxNumber, 3, 2),
		hard(0, 0, 0), {kind: 'r', n: 9, text: "again"}, {kind: 'r', n: 1, text: "back"}, {kind: 'y'}, {kind: 'y'},
		{kind: 'a', text: "two"}, {kind: 'c', n: 2}, {kind: 'r', n: api.MaxNumber, text: "far"}, {kind: 'a', text: "behind"}, {kind: 'c', n: 0},
	}
	run(t, script, len(script))
}

func TestCrashesOfALongRecord(t *testing.T) { // P7.2: a frame of many bytes is there as a whole, or not at all
	d := disk.New()
	p := pair{d, open(t, d), newModel()}
	for _, s := range []step{
		{kind: 'a', text: "one"}, {kind: 'y'}, {kind: 'a', text: strings.Repeat("long", 75)}, {kind: 'r', n: 1, text: strings.Repeat("data", 75)},
	} {
		next, fault := p.take(s)
		if fault != "" {
			t.Fatal(fault)
		}
		p = next
		p.tryCrashes(t, []step{s})
	}
}

// steps are short calls, right ones and wrong ones.
func steps() []step {
	out := []step{{kind: 'y'}, {kind: 'a'}, {kind: 'a', text: "a"}, {kind: 'o'}}
	for _, n := range []int{-1, 0, 1, 3} {
		out = append(out, step{kind: 'c', n: n})
	}
	for _, n := range []int{-1, 0, 1, 2, 4} {
		out = append(out, step{kind: 'r', n: n, text: "r"})
	}
	out = append(out, step{kind: 's', hard: journal.Hard{Term: 1, Vote: 2, Boot: 3}}, step{kind: 's', hard: journal.Hard{Vote: -1}})
	return append(out, step{kind: 'x'}, step{kind: 'x', n: 12}, step{kind: 'x', n: 99, torn: true}, step{kind: 'x', n: 99, cell: true})
}

func TestAllShortScripts(t *testing.T) { // P7.1, P7.2
	all := steps()
	ahead := []step{
		{kind: 'a', text: "x"}, {kind: 'a', text: "y"}, {kind: 'a', text: "z"}, {kind: 'r', n: 1, text: "b"},
		{kind: 's', hard: journal.Hard{Term: 9}}, {kind: 'y'},
	}
	for _, a := range all {
		for _, b := range all {
			run(t, []step{a, b}, 2)
			for _, c := range all {
				run(t, append(slices.Clone(ahead), a, b, c), 1)
			}
		}
	}
}

func TestLongScripts(t *testing.T) { // P7.1, P7.2
	r := rand.New(rand.NewPCG(7, 7)) // the same numbers in each run
	text := func(n int) string {
		b := make([]byte, r.IntN(n))
		for i := range b {
			b[i] = byte(r.IntN(256))
		}
		return string(b)
	}
	for range 300 {
		var script []step
		for range 60 {
			switch r.IntN(16) {
			case 0, 1, 2, 3, 4, 5, 6:
				script = append(script, step{kind: 'a', text: text(6)})
			case 7, 8:
				script = append(script, step{kind: 'c', n: r.IntN(14) - 1})
			case 9, 10:
				script = append(script, step{kind: 'r', n: r.IntN(14) - 1, text: text(6)})
			case 11, 12:
				script = append(script, step{kind: 's', hard: journal.Hard{Term: r.IntN(9) - 1, Vote: r.IntN(999), Boot: r.IntN(9)}})
			case 13:
				script = append(script, step{kind: 'y'})
			case 14:
				script = append(script, step{kind: 'o'})
			default:
				script = append(script, step{kind: 'x', n: r.IntN(60) - 1, torn: r.IntN(2) == 0, cell: r.IntN(2) == 0})
			}
		}
		run(t, script, 1)
	}
}

func TestAnyFile(t *testing.T) { // P7.1, P1: bytes turned at any place: what is ahead of that frame stays, and no more
	_, _, file, now := three(t)
	sizes := []int{len(based(5, "base")), len(more("six")), len(more("seven")), len(more("eight"))}
	looks := []look{
		{hard: now.hard}, {5, "base", nil, now.hard}, {5, "base", now.records[:1], now.hard}, {5, "base", now.records[:2], now.hard},
	}
	for i := range file {
		whole, start := 0, 0
		for start+sizes[whole] <= i {
			start += sizes[whole]
			whole++
		}
		for bit := range 8 {
			b := []byte(file)
			b[i] ^= 1 << bit
			d := on(t, string(b), cellOf(now.hard), true)
			is(t, open(t, d), looks[whole])
			has(t, d, file[:start], cellOf(now.hard), looks[whole])
		}
	}
}

func TestManyChanges(t *testing.T) { // P1: a long journal that is rebased and cut again and again
	d := disk.New()
	j := open(t, d)
	for range 20000 {
		ok(t, j.Append(nil), api.OK)
	}
	for i := range 10000 {
		ok(t, j.Rebase(i+1, nil), api.OK)
		ok(t, j.Cut(20000-i), api.OK)
	}
	is(t, j, look{base: 10000, records: make([]string, 1)})
	is(t, open(t, d), look{base: 10000, records: make([]string, 1)})
}
