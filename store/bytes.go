package store

import (
	"wampum/api"
	"wampum/pack"
	"wampum/span"
	"wampum/stamp"
	"wampum/version"
)

// Bytes are a store's.
func (s *Store) Bytes() []byte {
	if s == nil {
		return nil
	}
	b := pack.Number(nil, len(s.chains))
	for _, key := range s.Keys() {
		// Parts are put together apart: pack moves all that it puts something behind.
		b = append(b, pack.Text(nil, key)...)
		b = append(b, chainBytes(s.chains[key])...)
	}
	return b
}

// chainBytes are a chain's.
func chainBytes(c api.Chain) []byte {
	b := pack.Number(nil, len(c.Versions))
	for _, v := range c.Versions {
		b = append(b, versionBytes(v)...)
	}
	b = pack.Flag(b, c.Open)
	if c.Open {
		b = append(b, intentBytes(c.Intent)...)
	}
	return b
}

// versionBytes are a version's.
func versionBytes(v api.Version) []byte {
	b := stamp.Put(nil, v.At)
	b = pack.Text(b, v.Value)
	b = pack.Flag(b, v.Gone)
	return pack.Number(b, v.By)
}

// intentBytes are an intent's.
func intentBytes(i api.Intent) []byte {
	b := pack.Number(nil, i.Txn.ID)
	b = pack.Number(b, i.Txn.Epoch)
	b = pack.Text(b, i.Txn.Anchor)
	b = stamp.Put(b, i.Txn.Start)
	b = pack.Number(b, i.Seq)
	b = stamp.Put(b, i.At)
	b = pack.Text(b, i.Value)
	return pack.Flag(b, i.Gone)
}

// Parse is the store of bytes.
func Parse(b []byte) (*Store, api.Errno) {
	p := &parts{from: pack.Open(b)}
	s := New()
	ahead := ""
	for n := p.number(); n > 0 && p.e == api.OK; n-- {
		key, c := p.text(api.MaxKey), p.chain()
		// Every key is greater than the empty text.
		p.must(span.Key(key) && key > ahead)
		p.must(version.Right(c) && !isEmpty(c))
		s.chains[key] = c
		ahead = key
	}
	if p.e != api.OK || p.from.End() != api.OK {
		return nil, api.ErrPack
	}
	return s, api.OK
}

// parts reads a store's parts, one after the other. At the first one that is none such e tells so; those behind it are zero values.
type parts struct {
	from *pack.Reader
	e    api.Errno
}

// next is the part that read reads.
func next[T any](p *parts, read func() (T, api.Errno)) T {
	var part T
	if p.e == api.OK {
		part, p.e = read()
	}
	return part
}

// must has what was read as none such, if it is not right.
func (p *parts) must(right bool) {
	if !right {
		p.e = api.ErrPack
	}
}

// number is the next number.
func (p *parts) number() int {
	return next(p, func() (int, api.Errno) { return p.from.Number(api.MaxNumber) })
}

// flag is the next flag.
func (p *parts) flag() bool {
	return next(p, p.from.Flag)
}

// text is the next text, of at most so many bytes.
func (p *parts) text(most int) string {
	return next(p, func() (string, api.Errno) { return p.from.Text(most) })
}

// stamp is the next stamp.
func (p *parts) stamp() api.Stamp {
	return next(p, func() (api.Stamp, api.Errno) { return stamp.Get(p.from) })
}

// value is the next value, and whether it is gone.
func (p *parts) value() (string, bool) {
	value, gone := p.text(api.MaxValue), p.flag()
	p.must(isValue(value, gone))
	return value, gone
}

// chain is the next chain.
func (p *parts) chain() api.Chain {
	var c api.Chain
	for n := p.number(); n > 0 && p.e == api.OK; n-- {
		c.Versions = append(c.Versions, p.version())
	}
	c.Open = p.flag()
	if c.Open {
		c.Intent = p.intent()
	}
	return c
}

// version is the next version.
func (p *parts) version() api.Version {
	v := api.Version{At: p.stamp()}
	v.Value, v.Gone = p.value()
	v.By = p.number()
	return v
}

// intent is the next intent.
func (p *parts) intent() api.Intent {
	var i api.Intent
	i.Txn.ID, i.Txn.Epoch = p.number(), p.number()
	i.Txn.Anchor = p.text(api.MaxKey)
	p.must(span.Key(i.Txn.Anchor))
	i.Txn.Start, i.Seq, i.At = p.stamp(), p.number(), p.stamp()
	i.Value, i.Gone = p.value()
	return i
}
