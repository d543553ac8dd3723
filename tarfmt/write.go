package tarfmt

import (
	"wainload/api"
	"wainload/fields"
	"wainload/times"
	"wainload/tree"
)

const (
	second      = 1000000000 // nanoseconds
	mostSeconds = 1<<33 - 1  // those that a header has digits for
	mostName    = 100        // bytes of a name in a header

	recordsName = "pax"
	recordsMode = 0644
)

// writer is what was laid so far.
type writer struct {
	out []byte
}

// Write writes a tree.
func Write(t []api.Entry) ([]byte, bool) {
	if !tree.Can(t, api.TarGz) {
		return nil, false
	}
	w := &writer{}
	for _, e := range t {
		w.entry(e)
	}
	w.noughts(2 * blockBytes)
	return w.out, true
}

// entry lays one, and ahead of it what its header doesn't hold.
func (w *writer) entry(e api.Entry) {
	if l := recordsOf(e); len(l) > 0 {
		w.part(header{name: recordsName, mode: recordsMode, letter: typeNext}, Records(l))
	}
	seconds, _ := wholeSeconds(e.Time)
	w.part(header{name: e.Path, link: e.Target, mode: e.Mode, time: seconds, letter: typeOf(e.Kind)}, e.Data)
}

func recordsOf(e api.Entry) [][2]string {
	var l [][2]string
	if len(e.Path) > mostName {
		l = append(l, [2]string{keyName, e.Path})
	}
	if len(e.Target) > mostName {
		l = append(l, [2]string{keyTarget, e.Target})
	}
	if _, is := wholeSeconds(e.Time); !is {
		l = append(l, [2]string{keyTime, fields.PutSeconds(e.Time)})
	}
	return l
}

// wholeSeconds are those of a time, and whether a header's digits are enough for it.
func wholeSeconds(t int64) (int, bool) {
	s := times.ToUnix(t)
	if times.Floor(t, second) != t || s < 0 || s > mostSeconds {
		return 0, false
	}
	return s, true
}

// part lays a header and what stands behind it, filled up.
func (w *writer) part(h header, body string) {
	h.size = len(body)
	w.out = append(w.out, h.written()...)
	w.out = append(w.out, body...)
	w.noughts(gapBehind(len(body)))
}

func (w *writer) noughts(n int) { w.out = append(w.out, make([]byte, n)...) }
