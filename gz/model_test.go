package gz_test

import (
	"bytes"
	"compress/gzip"
	"encoding/binary"
	"fmt"
	"hash/crc32"
	"io"
	"math/rand"
	"slices"
	"strings"
	"testing"

	"wainload/api"
	"wainload/deflate"
	"wainload/gz"
	"wainload/inflate"
)

// plenty is a most that no members of these tests come to.
const plenty = 1 << 24

// le is a number in n bytes, the lowest first.
func le(v uint64, n int) string {
	return string(binary.LittleEndian.AppendUint64(nil, v)[:n])
}

// sum is that of chapter 2, out of Go's own library.
func sum(s string) uint64 { return uint64(crc32.ChecksumIEEE([]byte(s))) }

// head is that of a member with just these flags: with each text of which there is a flag, also if it
// is empty, and with a right sum.
func head(flags byte, m api.Member) string {
	h := "\x1f\x8b\x08" + string([]byte{flags}) + le(uint64(m.Time), 4) + "\x00\xff"
	if flags&4 != 0 {
		h += le(uint64(len(m.Extra)), 2) + m.Extra
	}
	if flags&8 != 0 {
		h += m.Name + "\x00"
	}
	if flags&16 != 0 {
		h += m.Comment + "\x00"
	}
	if flags&2 != 0 {
		h += le(sum(h), 2)
	}
	return h
}

// end is what stands behind the stream of such data.
func end(data string) string { return le(sum(data), 4) + le(uint64(len(data)), 4) }

// stored is a stream of such data, fewer than 65536 bytes, in one stored block.
func stored(data string) string {
	n := uint64(len(data))
	return "\x01" + le(n, 2) + le(^n, 2) + data
}

// plain is a member without texts.
func plain(data string) string {
	return head(0, api.Member{}) + stored(data) + end(data)
}

// slow is P9.1 word by word; it panics with an Errno where something is amiss.
type slow struct {
	b    []byte
	at   int
	told int
	most int
}

func (s *slow) want(n int) string {
	if s.at+n > len(s.b) {
		panic(api.ErrGzEnd)
	}
	s.at += n
	return string(s.b[s.at-n : s.at])
}

func (s *slow) text() string {
	for t := ""; ; {
		c := s.want(1)
		if c == "\x00" {
			return t
		}
		t += c
	}
}

func number(s string) uint64 {
	v := uint64(0)
	for i := range len(s) {
		v += uint64(s[i]) << (8 * i)
	}
	return v
}

func (s *slow) member() api.Member {
	var m api.Member
	from := s.at
	ten := s.want(10)
	if ten[0] != 31 || ten[1] != 139 || ten[2] != 8 || ten[3]&32 != 0 || ten[3]&64 != 0 || ten[3]&128 != 0 {
		panic(api.ErrGzForm)
	}
	flags := ten[3]
	m.Time = uint32(number(ten[4:8]))
	m.Text = flags&1 != 0
	if flags&4 != 0 {
		m.Extra = s.want(int(number(s.want(2))))
	}
	if flags&8 != 0 {
		m.Name = s.text()
	}
	if flags&16 != 0 {
		m.Comment = s.text()
	}
	if flags&2 != 0 {
		ahead := string(s.b[from:s.at])
		if number(s.want(2)) != sum(ahead)%65536 {
			panic(api.ErrGzSum)
		}
	}
	m.Data = s.stream()
	eight := s.want(8)
	if eight != end(m.Data) {
		panic(api.ErrGzSum)
	}
	return m
}

func (s *slow) stream() string {
	data, n, e := inflate.Inflate(s.b[s.at:], s.most-s.told)
	switch e {
	case api.OK:
	case api.ErrInflateEnd:
		panic(api.ErrGzEnd)
	case api.ErrInflateOver:
		panic(api.ErrGzOver)
	default:
		panic(api.ErrGzForm)
	}
	s.at += n
	s.told += len(data)
	return string(data)
}

func slowRead(b []byte, most int) (l []api.Member, e api.Errno) {
	defer func() {
		if amiss := recover(); amiss != nil {
			l, e = nil, amiss.(api.Errno)
		}
	}()
	s := &slow{b: b, most: most}
	if most < 0 {
		s.most = 0
	}
	for {
		l = append(l, s.member())
		if s.at == len(b) {
			return l, api.OK
		}
	}
}

// slowWrite is P9.2 word by word, of a member that is not refused.
func slowWrite(m api.Member, level int) string {
	flags := byte(0)
	if m.Text {
		flags += 1
	}
	if len(m.Extra) > 0 {
		flags += 4
	}
	if len(m.Name) > 0 {
		flags += 8
	}
	if len(m.Comment) > 0 {
		flags += 16
	}
	return head(flags, m) + string(deflate.Deflate([]byte(m.Data), level)) + end(m.Data)
}

// shown is a list of members for a message.
func shown(l []api.Member) string { return fmt.Sprintf("%.200q", fmt.Sprint(l)) }

// tells holds that Read tells these members, and that it leaves what it is given as it was.
func tells(t *testing.T, what, s string, most int, want ...api.Member) {
	t.Helper()
	b := []byte(s)
	l, e := gz.Read(b, most)
	if e != api.OK || !slices.Equal(l, want) {
		t.Errorf("%s: %s, %d", what, shown(l), e)
	}
	if string(b) != s {
		t.Errorf("%s: the bytes were changed", what)
	}
}

// refuses holds that Read tells this error, and no member beside it.
func refuses(t *testing.T, what, s string, most int, want api.Errno) {
	t.Helper()
	b := []byte(s)
	l, e := gz.Read(b, most)
	if e != want || len(l) != 0 {
		t.Errorf("%s: %s, %d, not %d", what, shown(l), e, want)
	}
	if string(b) != s {
		t.Errorf("%s: the bytes were changed", what)
	}
}

// likeModel holds Read against the model.
func likeModel(t *testing.T, what, s string, most int) api.Errno {
	t.Helper()
	l, e := slowRead([]byte(s), most)
	if e != api.OK {
		refuses(t, what, s, most, e)
	} else {
		tells(t, what, s, most, l...)
	}
	return e
}

// goReads holds that Go's own library reads a member so. (It takes texts for letters of Latin-1.)
func goReads(t *testing.T, what string, s string, m api.Member) {
	t.Helper()
	r, err := gzip.NewReader(strings.NewReader(s))
	if err != nil {
		t.Errorf("%s: %v", what, err)
		return
	}
	data, err := io.ReadAll(r)
	seconds := uint32(0)
	if !r.ModTime.IsZero() {
		seconds = uint32(r.ModTime.Unix())
	}
	if err != nil || string(data) != m.Data || r.Name != m.Name || r.Comment != m.Comment || string(r.Extra) != m.Extra || seconds != m.Time || r.OS != 255 {
		t.Errorf("%s: %v %+v", what, err, r.Header)
	}
}

// sample are texts and data of several kinds.
func sample() []api.Member {
	r := rand.New(rand.NewSource(9))
	noise := make([]byte, 3000)
	r.Read(noise)
	return []api.Member{
		{},
		{Data: "a"},
		{Name: "n", Data: "one name"},
		{Comment: "c", Time: 1},
		{Extra: "\x00", Data: "\x00"},
		{Text: true},
		{Name: "a name", Comment: "a comment\nof two lines", Extra: "an\x00extra\x00", Time: 1<<32 - 1, Text: true, Data: strings.Repeat("wain and load, ", 500)},
		{Name: "\xff\xfe\x01", Comment: "\x80\x1f\x8b\x08", Extra: plain("within"), Time: 0x04030201, Data: plain("as data")},
		{Extra: strings.Repeat("\x00\x01", 128), Time: 1 << 31, Data: string(noise)},
		{Name: strings.Repeat("n", 300), Data: string(bytes.Repeat([]byte{0}, 70000))},
	}
}
