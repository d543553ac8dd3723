package gz

import (
	"bytes"

	"wainload/api"
	"wainload/check"
	"wainload/fields"
	"wainload/inflate"
)

// reader is what was not read yet.
type reader struct {
	rest  []byte
	room  int // how many bytes of data may still be told
	table check.Table
}

// Read reads members.
func Read(b []byte, most int) ([]api.Member, api.Errno) {
	r := &reader{rest: b, room: max(most, 0), table: check.Make()}
	var l []api.Member
	for len(l) == 0 || len(r.rest) > 0 {
		m, e := r.member()
		if e != api.OK {
			return nil, e
		}
		l = append(l, m)
	}
	return l, api.OK
}

func (r *reader) member() (api.Member, api.Errno) {
	var m api.Member
	if e := r.head(&m); e != api.OK {
		return api.Member{}, e
	}
	data, e := r.stream()
	if e != api.OK {
		return api.Member{}, e
	}
	if e = r.end(data); e != api.OK {
		return api.Member{}, e
	}
	m.Data = string(data)
	return m, api.OK
}

// head takes what stands ahead of the data.
func (r *reader) head(m *api.Member) api.Errno {
	whole := r.rest
	flags, e := r.first(m)
	if e != api.OK {
		return e
	}
	if e = r.texts(m, flags); e != api.OK {
		return e
	}
	if flags&flagSum == 0 {
		return api.OK
	}
	return r.headSum(whole[:len(whole)-len(r.rest)])
}

// first takes the bytes that each head has, and tells the flags.
func (r *reader) first(m *api.Member) (byte, api.Errno) {
	b, e := r.take(firstBytes)
	if e != api.OK {
		return 0, e
	}
	flags := b[flagsAt]
	if string(b[:len(mark)]) != mark || flags >= noFlag {
		return 0, api.ErrGzForm
	}
	m.Text = flags&flagText != 0
	m.Time = uint32(fields.Le(b[timeAt : timeAt+wordBytes]))
	return flags, api.OK
}

// texts takes those that the flags speak of.
func (r *reader) texts(m *api.Member, flags byte) api.Errno {
	var e api.Errno
	if flags&flagExtra != 0 {
		if m.Extra, e = r.extra(); e != api.OK {
			return e
		}
	}
	if flags&flagName != 0 {
		if m.Name, e = r.text(); e != api.OK {
			return e
		}
	}
	if flags&flagComment != 0 {
		if m.Comment, e = r.text(); e != api.OK {
			return e
		}
	}
	return api.OK
}

func (r *reader) extra() (string, api.Errno) {
	size, e := r.take(halfBytes)
	if e != api.OK {
		return "", e
	}
	b, e := r.take(int(fields.Le(size)))
	return string(b), e
}

// text is one that a byte 0 ends.
func (r *reader) text() (string, api.Errno) {
	s, behind, isEnded := bytes.Cut(r.rest, []byte{0})
	if !isEnded {
		return "", api.ErrGzEnd
	}
	r.rest = behind
	return string(s), api.OK
}

// headSum holds what the member has ahead of it against it.
func (r *reader) headSum(ahead []byte) api.Errno {
	b, e := r.take(halfBytes)
	if e != api.OK {
		return e
	}
	if uint16(fields.Le(b)) != uint16(r.table.Sum(ahead)) {
		return api.ErrGzSum
	}
	return api.OK
}

func (r *reader) stream() ([]byte, api.Errno) {
	data, read, e := inflate.Inflate(r.rest, r.room)
	switch e {
	case api.OK:
		r.rest = r.rest[read:]
		r.room -= len(data)
		return data, api.OK
	case api.ErrInflateEnd:
		return nil, api.ErrGzEnd
	case api.ErrInflateOver:
		return nil, api.ErrGzOver
	}
	return nil, api.ErrGzForm
}

// end holds data against the sum and the size behind it.
func (r *reader) end(data []byte) api.Errno {
	b, e := r.take(2 * wordBytes)
	if e != api.OK {
		return e
	}
	sum, size := fields.Le(b[:wordBytes]), fields.Le(b[wordBytes:])
	if uint32(sum) != r.table.Sum(data) || uint32(size) != uint32(len(data)) {
		return api.ErrGzSum
	}
	return api.OK
}

// take takes n bytes.
func (r *reader) take(n int) ([]byte, api.Errno) {
	if n > len(r.rest) {
		return nil, api.ErrGzEnd
	}
	b := r.rest[:n]
	r.rest = r.rest[n:]
	return b, api.OK
}
