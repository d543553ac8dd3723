package zipfmt

import (
	"slices"

	"wainload/api"
	"wainload/check"
	"wainload/counter"
	"wainload/deflate"
	"wainload/fields"
	"wainload/times"
	"wainload/tree"
)

const (
	version   = 20
	strength  = 3
	saltBytes = 16
)

// writer is what was laid so far, and how the rest is made.
type writer struct {
	front        []byte // what stands ahead of the directory
	records      []byte
	level        int
	secret, salt []byte
	table        check.Table
}

// Write writes a tree.
func Write(t []api.Entry, level int, secret, salt string) ([]byte, bool) {
	if !tree.Can(t, api.Zip) || secret != "" && len(salt) != saltBytes {
		return nil, false
	}
	w := &writer{level: level, secret: []byte(secret), salt: []byte(salt), table: check.Make()}
	for _, e := range t {
		w.entry(e)
	}
	return slices.Concat(w.front, w.records, w.end(len(t))), true
}

// entry lays one in both places. A tree is never so great that its numbers would need the field idWide.
func (w *writer) entry(e api.Entry) {
	c, inside := w.record(e)
	w.front = c.putLocal(w.front)
	w.front = append(w.front, inside...)
	w.records = c.putRecord(w.records)
}

// record is what the directory says of an entry; beside it, what its data became.
func (w *writer) record(e api.Entry) (record, []byte) {
	c := record{host: hostUnix, attributes: unixOf(e.Kind)<<unixAt | e.Mode<<modeAt, place: len(w.front), name: nameOf(e), extra: ntField(e.Time)}
	c.flags = flagLetters
	day, clock, _ := times.ToDos(e.Time) // zeros, if it has none
	c.day, c.clock = int(day), int(clock)
	data := []byte(e.Data + e.Target) // no entry of a tree has both
	c.size = len(data)
	m, inside := w.making(e.Kind, data)
	c.method = m.method
	if m.isSealed {
		c.flags |= flagSealed
		c.method = sealed
		c.extra = append(c.extra, sealField(m)...)
	} else {
		c.sum = int(w.table.Sum(data))
	}
	c.inside = len(inside)
	c.nameBytes, c.extraBytes = len(c.name), len(c.extra)
	return c, inside
}

// making makes the bytes inside of data, and tells how.
func (w *writer) making(kind int, data []byte) (making, []byte) {
	m := making{method: stored}
	inside := data
	if w.level > 0 {
		if small := deflate.Deflate(data, w.level); len(small) < len(data) {
			m.method, inside = deflated, small
		}
	}
	if len(w.secret) > 0 && kind != api.Folder {
		m.isSealed, m.version, m.strength = true, sealVersion, strength
		inside, _ = counter.Seal(strength, w.secret, w.salt, inside) // the salt is as long as it must be
	}
	return m, inside
}

func unixOf(kind int) int {
	switch kind {
	case api.Folder:
		return unixFolder
	case api.Link:
		return unixLink
	}
	return unixFile
}

func nameOf(e api.Entry) []byte {
	if e.Kind == api.Folder {
		return []byte(e.Path + "/")
	}
	return []byte(e.Path)
}

func ntField(t int64) []byte {
	b := put(nil, 0, 4)
	b = put(b, ntTimes, 2)
	b = put(b, ntTimeBytes, 2)
	v := fields.PutLe(times.ToNt(t), 8)
	return putField(idNt, slices.Concat(b, v, v, v))
}

func sealField(m making) []byte {
	b := put(nil, m.version, 2)
	b = append(b, sealMark...)
	b = put(b, m.strength, 1)
	return putField(idSeal, put(b, m.method, 2))
}

func putField(id int, body []byte) []byte {
	b := put(nil, id, 2)
	return append(put(b, len(body), 2), body...)
}

// putLocal lays the header that stands ahead of the bytes inside.
func (c record) putLocal(b []byte) []byte {
	b = append(b, markLocal...)
	b = c.putHeader(b)
	b = append(b, c.name...)
	return append(b, c.extra...)
}

// putRecord lays what the directory has.
func (c record) putRecord(b []byte) []byte {
	b = append(b, markRecord...)
	b = put(b, version, 1)
	b = put(b, c.host, 1)
	b = c.putHeader(b)
	b = put(b, 0, 2) // bytes of a comment
	b = put(b, 0, 2) // a disk
	b = put(b, 0, 2)
	b = put(b, c.attributes, 4)
	b = put(b, c.place, 4)
	b = append(b, c.name...)
	return append(b, c.extra...)
}

// end is what stands behind the directory.
func (w *writer) end(many int) []byte {
	b := []byte(markEnd)
	b = put(b, 0, 2)
	b = put(b, 0, 2)
	b = put(b, many, 2)
	b = put(b, many, 2)
	b = put(b, len(w.records), 4)
	b = put(b, len(w.front), 4)
	return put(b, 0, 2)
}
