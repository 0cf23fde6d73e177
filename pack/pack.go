// Package pack is layer 1: see shared/doc/01-pack.md.
package pack

import (
	"bytes"

	"wampum/api"
)

const (
	bits    = 7         // of a number, in each of its bytes
	more    = 1 << bits // on top of them, in each byte but the last one
	longest = 9         // bytes of a number: nine times seven bits make 63
)

// Number puts a number behind.
func Number(b []byte, v int) []byte {
	// Without room behind it, the first byte moves all to new memory: what lies behind b stays.
	out := b[:len(b):len(b)]
	v = max(v, 0)
	for v >= more {
		out = append(out, byte(v%more+more))
		v >>= bits
	}
	return append(out, byte(v))
}

// Flag puts a flag behind.
func Flag(b []byte, v bool) []byte {
	if v {
		return Number(b, 1)
	}
	return Number(b, 0)
}

// Text puts a text behind.
func Text(b []byte, s string) []byte {
	return append(Number(b, len(s)), s...)
}

// Reader has bytes.
type Reader struct {
	rest []byte // from its place on
}

// Open is one of bytes.
func Open(b []byte) *Reader {
	// A copy, since whoever handed b in may change it later.
	return &Reader{rest: bytes.Clone(b)}
}

// Number is the next number.
func (r *Reader) Number(most int) (int, api.Errno) {
	if r == nil {
		return 0, api.ErrArg
	}
	v, size := first(r.rest)
	if size == 0 || v > most {
		return 0, api.ErrPack
	}
	r.rest = r.rest[size:]
	return v, api.OK
}

// Flag is the next flag.
func (r *Reader) Flag() (bool, api.Errno) {
	// A flag's byte is the number's of 0 or 1, and no other bytes are those numbers.
	v, e := r.Number(1)
	return v == 1, e
}

// Text is the next text.
func (r *Reader) Text(most int) (string, api.Errno) {
	if r == nil {
		return "", api.ErrArg
	}
	n, size := first(r.rest)
	// Held against what is left, not added up: n may be as great as a number can be.
	if size == 0 || n > most || n > len(r.rest)-size {
		return "", api.ErrPack
	}
	end := size + n
	s := string(r.rest[size:end])
	r.rest = r.rest[end:]
	return s, api.OK
}

// Left is how many bytes are left.
func (r *Reader) Left() int {
	if r == nil {
		return 0
	}
	return len(r.rest)
}

// End tells whether none are.
func (r *Reader) End() api.Errno {
	if r == nil {
		return api.ErrArg
	}
	if len(r.rest) > 0 {
		return api.ErrPack
	}
	return api.OK
}

// first is the number that b begins with, and how many bytes it has: none, if b begins with no number.
func first(b []byte) (v, size int) {
	for i, c := range b[:min(len(b), longest)] {
		v |= int(c%more) << (bits * i)
		if c >= more {
			continue
		}
		if c == 0 && i > 0 { // the same number has fewer bytes: it would be read in two ways
			return 0, 0
		}
		return v, i + 1
	}
	return 0, 0
}
