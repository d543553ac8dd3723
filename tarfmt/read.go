package tarfmt

import (
	"bytes"

	"wainload/api"
	"wainload/names"
	"wainload/times"
	"wainload/tree"
)

const (
	mostSize = 1 << 40
	modes    = 1 << 12 // those that an entry may have; what stands above them is not kept
)

// reader is what was not read yet, and what the rest is read by.
type reader struct {
	rest    []byte
	isEnded bool
	next    known // what records say of the next entry
	all     known // .. of all entries from here on
	gnu     known // .. what GNU's names say of the next one
	told    []api.Entry
	much    int // bytes of all Data
	most    int
	entries int
}

// Read reads a tree.
func Read(b []byte, most, entries int) ([]api.Entry, api.Errno) {
	r := &reader{rest: b, next: known{}, all: known{}, gnu: known{}, most: most, entries: entries}
	for !r.isEnded {
		if err := r.part(); err != api.OK {
			return nil, err
		}
	}
	sorted := tree.Sort(r.told)
	if err := tree.Check(sorted); err != api.OK {
		return nil, err
	}
	return sorted, api.OK
}

// part takes a header, and what stands behind it.
func (r *reader) part() api.Errno {
	b, is := r.take(blockBytes)
	if !is {
		return api.ErrTarForm
	}
	if isNought(b) {
		return r.end()
	}
	h, err := read(b)
	if err != api.OK {
		return err
	}
	body, is := r.body(h)
	if !is {
		return api.ErrTarForm
	}
	switch h.letter {
	case typeNext:
		return r.next.lay(string(body))
	case typeAll:
		return r.all.lay(string(body))
	case typeName:
		r.gnu.put(keyName, textOf(body))
		return api.OK
	case typeTarget:
		r.gnu.put(keyTarget, textOf(body))
		return api.OK
	}
	return r.entry(h, body)
}

// end takes the second half of what an archive ends with.
func (r *reader) end() api.Errno {
	b, is := r.take(blockBytes)
	if !is || !isNought(b) {
		return api.ErrTarForm
	}
	r.isEnded = true
	return api.OK
}

func isNought(b []byte) bool { return bytes.Count(b, []byte{0}) == len(b) }

// body takes the bytes that stand behind a header, and what fills them up.
func (r *reader) body(h header) ([]byte, bool) {
	size, err := r.size(h)
	if err != api.OK || size < 0 || size > mostSize {
		return nil, false
	}
	b, is := r.take(size)
	if !is {
		return nil, false
	}
	r.rest = r.rest[min(gapBehind(size), len(r.rest)):]
	return b, true
}

// entry takes one, and uses up what was said of it alone.
func (r *reader) entry(h header, body []byte) api.Errno {
	e := api.Entry{Kind: kindOf(h.letter), Mode: h.mode % modes}
	switch e.Kind {
	case api.Link:
		e.Target = r.target(h)
		fallthrough
	case api.Folder:
		if len(body) > 0 {
			return api.ErrTarForm
		}
	case api.File:
		e.Data = string(body)
	default:
		return api.ErrTarKind
	}
	var err api.Errno
	if e.Path, err = r.path(h); err != api.OK {
		return err
	}
	if e.Time, err = r.time(h); err != api.OK {
		return err
	}
	clear(r.next)
	clear(r.gnu)
	return r.tell(e)
}

// tell lays an entry to those that are told, if it is not beyond the limits.
func (r *reader) tell(e api.Entry) api.Errno {
	r.told = append(r.told, e)
	r.much += len(e.Data)
	if len(r.told) > r.entries || r.much > r.most {
		return api.ErrTreeOver
	}
	return api.OK
}

// What was said ahead of an entry counts more than what its header says.

func (r *reader) path(h header) (string, api.Errno) {
	if v, is := r.find(keyName); is {
		return v.text, v.err
	}
	return names.Clean(h.name)
}

func (r *reader) target(h header) string {
	if v, is := r.find(keyTarget); is {
		return v.text
	}
	return h.link
}

// size asks for a record of a File alone.
func (r *reader) size(h header) (int, api.Errno) {
	if v, is := r.find(keySize); is && kindOf(h.letter) == api.File {
		return int(v.number), v.err
	}
	return h.size, api.OK
}

func (r *reader) time(h header) (int64, api.Errno) {
	if v, is := r.find(keyTime); is {
		return v.number, v.err
	}
	t, is := times.FromUnix(h.time)
	if !is {
		return 0, api.ErrTimeOver
	}
	return t, api.OK
}

// find looks where what counts most stands first.
func (r *reader) find(key string) (value, bool) {
	for _, k := range [...]known{r.next, r.all, r.gnu} {
		if v, is := k[key]; is {
			return v, true
		}
	}
	return value{}, false
}

// take takes n bytes.
func (r *reader) take(n int) ([]byte, bool) {
	if n > len(r.rest) {
		return nil, false
	}
	b := r.rest[:n]
	r.rest = r.rest[n:]
	return b, true
}
