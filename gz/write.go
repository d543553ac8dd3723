package gz

import (
	"strings"

	"wainload/api"
	"wainload/check"
	"wainload/deflate"
	"wainload/fields"
)

const (
	noHint    = 0   // of how hard deflate tried
	anySystem = 255 // may have written it
)

// writer is what was laid so far.
type writer struct {
	out []byte
}

// Write writes a member.
func Write(m api.Member, level int) ([]byte, bool) {
	if hasNul(m.Name) || hasNul(m.Comment) || len(m.Extra) > mostExtra {
		return nil, false
	}
	w := &writer{}
	w.head(m)
	w.data([]byte(m.Data), level)
	return w.out, true
}

// hasNul tells of a text that it would be read as a shorter one.
func hasNul(s string) bool { return strings.IndexByte(s, 0) >= 0 }

// flagsOf are those of all that m has.
func flagsOf(m api.Member) byte {
	return where(m.Text, flagText) |
		where(m.Extra != "", flagExtra) |
		where(m.Name != "", flagName) |
		where(m.Comment != "", flagComment)
}

func where(has bool, flag byte) byte {
	if has {
		return flag
	}
	return 0
}

func (w *writer) head(m api.Member) {
	w.lay([]byte(mark)...)
	w.lay(flagsOf(m))
	w.number(uint64(m.Time), wordBytes)
	w.lay(noHint, anySystem)
	if m.Extra != "" {
		w.number(uint64(len(m.Extra)), halfBytes)
		w.lay([]byte(m.Extra)...)
	}
	w.text(m.Name)
	w.text(m.Comment)
}

func (w *writer) text(s string) {
	if s == "" {
		return
	}
	w.lay([]byte(s)...)
	w.lay(0)
}

func (w *writer) data(b []byte, level int) {
	table := check.Make()
	w.lay(deflate.Deflate(b, level)...)
	w.number(uint64(table.Sum(b)), wordBytes)
	w.number(uint64(len(b)), wordBytes)
}

func (w *writer) number(v uint64, n int) { w.lay(fields.PutLe(v, n)...) }

// lay lays bytes behind those that are there.
func (w *writer) lay(b ...byte) { w.out = append(w.out, b...) }
