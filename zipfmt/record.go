package zipfmt

import (
	"strings"

	"wainload/api"
	"wainload/fields"
	"wainload/times"
)

// record is what the directory says of an entry.
type record struct {
	header
	host, attributes, place int
	name, extra             []byte
}

// record takes one; if something is amiss with it the row keeps it.
func (r *row) record() record {
	var c record
	r.mark(markRecord)
	r.take(1) // a version
	c.host = r.number(1)
	c.header = r.header()
	commentBytes := r.number(2)
	r.mustBe(0, 2)
	r.take(2)
	c.attributes = r.number(4)
	c.place = r.number(4)
	c.name = r.take(c.nameBytes)
	c.extra = r.take(c.extraBytes)
	r.take(commentBytes)
	r.must(areFields(c.extra))
	w := field(c.extra, idWide)
	c.size = w.wide(c.size)
	c.inside = w.wide(c.inside)
	c.place = w.wide(c.place)
	r.must(!w.isAmiss)
	return c
}

// wide is a number, or, where it has too few bytes, the next one of the row.
func (r *row) wide(v int) int {
	if v != numberFull {
		return v
	}
	return r.number(8)
}

// making is how data became the bytes inside.
type making struct {
	method            int // the inner one
	isSealed          bool
	version, strength int // of what is sealed
}

func (c record) making() (making, api.Errno) {
	m := making{method: c.method}
	if c.flags&^flagsKnown != 0 {
		return making{}, api.ErrZipKind
	}
	if c.flags&flagSealed != 0 {
		var is bool
		if m, is = c.sealing(); !is {
			return making{}, api.ErrZipKind
		}
	}
	if m.method != stored && m.method != deflated {
		return making{}, api.ErrZipKind
	}
	return m, api.OK
}

func (c record) sealing() (making, bool) {
	r := field(c.extra, idSeal)
	r.must(c.method == sealed && len(r.rest) == sealBytes)
	m := making{isSealed: true}
	m.version = r.number(2)
	r.must(m.version == 1 || m.version == sealVersion)
	r.mark(sealMark)
	m.strength = r.number(1)
	r.must(m.strength >= 1 && m.strength <= 3)
	m.method = r.number(2)
	return m, !r.isAmiss
}

// kind is 0, if it is none; name is as letters.
func (c record) kind(name string) int {
	if unix := c.attributes >> unixAt; c.host == hostUnix && unix != 0 {
		return kindOf(unix)
	}
	if strings.HasSuffix(name, "/") {
		return api.Folder
	}
	return api.File
}

func kindOf(unix int) int {
	switch unix {
	case unixFolder:
		return api.Folder
	case unixLink:
		return api.Link
	case unixFile:
		return api.File
	}
	return 0
}

func (c record) mode(kind int) int {
	switch {
	case c.host == hostUnix:
		return c.attributes >> modeAt % modes
	case kind == api.Folder:
		return otherFolder
	}
	return otherMode
}

// time asks the finest clock first.
func (c record) time() (int64, api.Errno) {
	if v, is := ntTime(c.extra); is {
		t, is := times.FromNt(v)
		if !is {
			return 0, api.ErrTimeOver
		}
		return t, api.OK
	}
	if s, is := unixTime(c.extra); is {
		t, _ := times.FromUnix(s) // 32 bits of seconds always have an answer
		return t, api.OK
	}
	t, _ := times.FromDos(uint16(c.day), uint16(c.clock)) // 0, if it has none
	return t, api.OK
}

func ntTime(extra []byte) (uint64, bool) {
	r := field(extra, idNt)
	r.take(4)
	r.mustBe(ntTimes, 2)
	r.mustBe(ntTimeBytes, 2)
	v := fields.Le(r.take(8)) // not a number that is bounded
	return v, !r.isAmiss
}

func unixTime(extra []byte) (int, bool) {
	r := field(extra, idUnix)
	r.must(r.number(1)%2 == 1)
	s := int32(r.number(4))
	return int(s), !r.isAmiss
}
