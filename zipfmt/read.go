package zipfmt

import (
	"bytes"

	"wainload/api"
	"wainload/check"
	"wainload/counter"
	"wainload/inflate"
	"wainload/names"
	"wainload/tree"
)

// reader is what entries are read by.
type reader struct {
	front    []byte // what stands ahead of the directory
	records  *row   // what was not read yet of it
	password []byte
	much     int // bytes of all data so far
	most     int
	table    check.Table
}

// Read reads a tree.
func Read(b []byte, password string, most, entries int) ([]api.Entry, api.Errno) {
	d, is := directoryOf(b)
	if !is {
		return nil, api.ErrZipForm
	}
	if d.many > entries {
		return nil, api.ErrTreeOver
	}
	r := &reader{front: b[:d.begins:d.begins], records: rowAt(b[:d.ends:d.ends], d.begins), password: []byte(password), most: most, table: check.Make()}
	var l []api.Entry
	for range d.many {
		e, err := r.entry()
		if err != api.OK {
			return nil, err
		}
		l = append(l, e)
	}
	if len(r.records.rest) > 0 {
		return nil, api.ErrZipForm
	}
	sorted := tree.Sort(l)
	if err := tree.Check(sorted); err != api.OK {
		return nil, err
	}
	return sorted, api.OK
}

// entry takes the next one of the directory, and its data.
func (r *reader) entry() (api.Entry, api.Errno) {
	c := r.records.record()
	if r.records.isAmiss {
		return api.Entry{}, api.ErrZipForm
	}
	m, err := c.making()
	if err != api.OK {
		return api.Entry{}, err
	}
	r.much += c.size
	if r.much > r.most {
		return api.Entry{}, api.ErrTreeOver
	}
	inside, is := r.inside(c)
	if !is {
		return api.Entry{}, api.ErrZipForm
	}
	data, err := r.data(c, m, inside)
	if err != api.OK {
		return api.Entry{}, err
	}
	return r.made(c, string(data))
}

// inside is what stands behind a local header, if all is there as the directory says it.
func (r *reader) inside(c record) ([]byte, bool) {
	w := rowAt(r.front, c.place)
	w.mark(markLocal)
	h := w.header()
	w.must(h.flags == c.flags && h.method == c.method)
	w.must(c.flags&flagBehind != 0 || h.agrees(c.header))
	w.must(bytes.Equal(w.take(h.nameBytes), c.name))
	w.take(h.extraBytes)
	b := w.take(c.inside)
	w.must(c.flags&flagBehind == 0 || c.isBehind(w.rest))
	return b, !w.isAmiss
}

// agrees tells whether a local header has the directory's sum and numbers, as far as it has bytes enough for these.
func (h header) agrees(c header) bool {
	return h.sum == c.sum && (h.inside == c.inside || h.inside == numberFull) && (h.size == c.size || h.size == numberFull)
}

// isBehind tells whether the sum and the numbers stand there once more. A sum may look like the mark.
func (h header) isBehind(b []byte) bool {
	return bytes.HasPrefix(b, h.putNumbers([]byte(markBehind))) || bytes.HasPrefix(b, h.putNumbers(nil))
}

// data is what the bytes inside were made of.
func (r *reader) data(c record, m making, inside []byte) ([]byte, api.Errno) {
	b := inside
	if m.isSealed {
		var err api.Errno
		if b, err = r.opened(m, inside); err != api.OK {
			return nil, err
		}
	}
	if m.method == deflated {
		told, read, err := inflate.Inflate(b, c.size)
		if err != api.OK || read != len(b) {
			return nil, api.ErrZipForm
		}
		b = told
	}
	if len(b) != c.size {
		return nil, api.ErrZipForm
	}
	if err := r.sum(c, m, b); err != api.OK {
		return nil, err
	}
	return b, api.OK
}

func (r *reader) opened(m making, inside []byte) ([]byte, api.Errno) {
	b, err := counter.Open(m.strength, r.password, inside)
	switch err {
	case api.OK:
		return b, api.OK
	case api.ErrCounterForm:
		return nil, api.ErrZipForm
	}
	return nil, api.ErrZipTag
}

// sum tells what is amiss with the one that the directory has.
func (r *reader) sum(c record, m making, data []byte) api.Errno {
	if m.version == sealVersion {
		if c.sum != 0 {
			return api.ErrZipForm
		}
		return api.OK
	}
	if uint32(c.sum) != r.table.Sum(data) {
		return api.ErrZipSum
	}
	return api.OK
}

// made is the entry of that data.
func (r *reader) made(c record, data string) (api.Entry, api.Errno) {
	name := r.name(c)
	path, err := names.Clean(name) // refuses also what is not Valid
	if err != api.OK {
		return api.Entry{}, err
	}
	e := api.Entry{Kind: c.kind(name), Path: path}
	switch e.Kind {
	case api.File:
		e.Data = data
	case api.Folder:
		if data != "" {
			return api.Entry{}, api.ErrZipForm
		}
	case api.Link:
		e.Target = data
	default:
		return api.Entry{}, api.ErrZipKind
	}
	e.Mode = c.mode(e.Kind)
	if e.Time, err = c.time(); err != api.OK {
		return api.Entry{}, err
	}
	return e, api.OK
}

// name is the one that counts, as letters.
func (r *reader) name(c record) string {
	if c.flags&flagLetters != 0 {
		return string(c.name)
	}
	w := field(c.extra, idName)
	w.mustBe(nameVersion, 1)
	w.mustBe(int(r.table.Sum(c.name)), 4) // that of another name was left behind by who changed this one
	if !w.isAmiss {
		return string(w.rest)
	}
	return names.FromOem(string(c.name))
}
