package journal

import (
	"wampum/api"
	"wampum/pack"
)

// kind is a change's, by its number in the file.
type kind int

// The kinds.
const (
	oneMore   kind = 1 + iota // a text
	onlyFirst                 // a number
	newBase                   // a number, a text
)

// change is one of the file; what its kind does not have is 0, or empty.
type change struct {
	kind   kind
	number int
	text   string
}

// acts are what the changes of each kind do to a journal. Each tells whether it was a change for that journal; else nothing was done.
func acts() map[kind]func(*Journal, change) bool {
	return map[kind]func(*Journal, change) bool{
		oneMore:   (*Journal).addRecord,
		onlyFirst: (*Journal).keepFirst,
		newBase:   (*Journal).layBase,
	}
}

// addRecord has the text as a record more.
func (j *Journal) addRecord(c change) bool {
	j.records = append(j.records, c.text)
	return true
}

// keepFirst lets so many first records stay.
func (j *Journal) keepFirst(c change) bool {
	if c.number > len(j.records) {
		return false
	}
	// Cleared, so that what is gone isn't kept by the list's memory.
	clear(j.records[c.number:])
	j.records = j.records[:c.number]
	return true
}

// layBase has the number and the text as the base, and lets the records behind it stay.
func (j *Journal) layBase(c change) bool {
	gone := len(j.records)
	if c.number >= j.base && c.number <= j.Last() {
		gone = c.number - j.base
	}
	// Cleared, not moved: many changes of a long journal would move all of it each time.
	clear(j.records[:gone])
	j.records = j.records[gone:]
	j.base, j.data = c.number, c.text
	return true
}

// hasNumber tells whether changes of that kind have a number.
func (k kind) hasNumber() bool {
	return k == onlyFirst || k == newBase
}

// hasText tells whether changes of that kind have a text.
func (k kind) hasText() bool {
	return k == oneMore || k == newBase
}

// bytes are those of the change's frame.
func (c change) bytes() []byte {
	b := pack.Number(nil, int(c.kind))
	if c.kind.hasNumber() {
		b = pack.Number(b, c.number)
	}
	if c.kind.hasText() {
		b = pack.Text(b, c.text)
	}
	return b
}

// changeOf is the change of a frame's bytes; whether there is such a kind is for acts to tell.
func changeOf(b []byte) (change, api.Errno) {
	r := pack.Open(b)
	n, e := r.Number(api.MaxNumber)
	c := change{kind: kind(n)}
	if e == api.OK && c.kind.hasNumber() {
		c.number, e = r.Number(api.MaxNumber)
	}
	if e == api.OK && c.kind.hasText() {
		c.text, e = r.Text(api.MaxBytes)
	}
	if e == api.OK {
		e = r.End()
	}
	return c, e
}
