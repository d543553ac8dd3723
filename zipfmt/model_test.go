package zipfmt_test

import (
	"bytes"
	"compress/flate"
	"fmt"
	"hash/crc32"
	"slices"
	"strings"
	"testing"

	"wainload/api"
	"wainload/counter"
	"wainload/inflate"
	"wainload/names"
	"wainload/times"
	"wainload/tree"
	"wainload/zipfmt"
)

const (
	sec  = 1000000000
	full = 1<<32 - 1
	word = "password" // what the parts of these tests are sealed with

	// plenty is a limit that no archive of these tests comes to.
	plenty = 1 << 24

	// Of each part: the first day of March of 2000, a second before noon.
	someDay, someClock = 20<<9 | 3<<5 | 1, 11<<11 | 59<<5 | 29
	someTime           = 951911998 * sec
)

// le is v in n bytes, the lowest first.
func le(v, n int) string {
	b := make([]byte, n)
	for at := range b {
		b[at] = byte(v >> (8 * at))
	}
	return string(b)
}

func field(id int, body string) string { return le(id, 2) + le(len(body), 2) + body }

func sumOf(s string) int { return int(crc32.ChecksumIEEE([]byte(s))) }

// head is what stands in a local header and in the directory alike.
type head struct {
	mark                               string
	version, flags, method, clock, day int
	sum, inside, size                  int
	name, extra                        string
	moreName, moreExtra                int // bytes that are told beside those that are there
}

func (h head) numbers() string { return le(h.sum, 4) + le(h.inside, 4) + le(h.size, 4) }

func (h head) bytes() string {
	return le(h.version, 2) + le(h.flags, 2) + le(h.method, 2) + le(h.clock, 2) + le(h.day, 2) + h.numbers() + le(len(h.name)+h.moreName, 2) + le(len(h.extra)+h.moreExtra, 2)
}

// part is an entry, place by place: what stands of it ahead of the directory, and its record there.
type part struct {
	ahead        string
	local        head
	body, behind string
	record       head
	by, host     int
	disk, inner  int
	attributes   int
	comment      string
	moreComment  int
	place        int
	isPlaced     bool // else it is where the local header stands
}

func (p part) front() string {
	return p.ahead + p.local.mark + p.local.bytes() + p.local.name + p.local.extra + p.body + p.behind
}

func (p part) recordAt(place int) string {
	if p.isPlaced {
		place = p.place
	}
	return p.record.mark + le(p.by, 1) + le(p.host, 1) + p.record.bytes() + le(len(p.comment)+p.moreComment, 2) + le(p.disk, 2) + le(p.inner, 2) + le(p.attributes, 4) + le(place, 4) + p.record.name + p.record.extra + p.comment
}

// both changes the local header and the record alike.
func (p part) both(do func(h *head)) part {
	do(&p.local)
	do(&p.record)
	return p
}

// with changes p as it is said.
func (p part) with(do func(p *part)) part {
	do(&p)
	return p
}

func (p part) flagged(flags int) part { return p.both(func(h *head) { h.flags |= flags }) }

func (p part) extra(s string) part { return p.with(func(p *part) { p.record.extra += s }) }

func (p part) from(host, attributes int) part {
	p.host, p.attributes = host, attributes
	return p
}

func (p part) at(place int) part {
	p.place, p.isPlaced = place, true
	return p
}

func partOf(name, data string, upper int) part {
	h := head{version: 20, flags: 2048, clock: someClock, day: someDay, sum: sumOf(data), inside: len(data), size: len(data), name: name}
	p := part{local: h, record: h, body: data, by: 20, host: 3, attributes: upper << 16}
	p.local.mark, p.record.mark = "PK\x03\x04", "PK\x01\x02"
	return p
}

func partFile(name, data string) part { return partOf(name, data, 8<<12|0644) }

func partFolder(name string) part { return partOf(name, "", 4<<12|0755) }

func partLink(name, target string) part { return partOf(name, target, 10<<12|0777) }

// small has the body deflated.
func (p part) small() part {
	p.body = small(p.body)
	return p.both(func(h *head) { h.method, h.inside = 8, len(p.body) })
}

// flater is kept, as a new one is costly.
var flater, _ = flate.NewWriter(nil, flate.BestCompression)

func small(s string) string {
	var b bytes.Buffer
	flater.Reset(&b)
	flater.Write([]byte(s))
	flater.Close()
	return b.String()
}

// sealField is the field 9901.
func sealField(version, strength, method int) string {
	return field(0x9901, le(version, 2)+"AE"+le(strength, 1)+le(method, 2))
}

// sealed has the body sealed; of version 2 the sum is 0.
func (p part) sealed(version, strength int) part {
	salt := []byte("0123456789abcdef")[:4+4*strength]
	b, err := counter.Seal(strength, []byte(word), salt, []byte(p.body))
	if err != api.OK {
		panic(err)
	}
	p.body = string(b)
	p = p.extra(sealField(version, strength, p.record.method))
	return p.both(func(h *head) {
		h.flags |= 1
		h.method, h.inside = 99, len(p.body)
		if version == 2 {
			h.sum = 0
		}
	})
}

// late has the sum and the numbers behind the body, with that mark ahead of them, and none in the local header.
func (p part) late(mark string) part {
	p.behind = mark + p.record.numbers()
	p.local.sum, p.local.inside, p.local.size = 0, 0, 0
	return p.flagged(8)
}

// ending is an archive: what stands ahead of the directory, that, and what stands behind it.
type ending struct {
	front, records, ahead string
	mark                  string
	disk, first           int
	many, all             int
	size, begins          int
	comment               string
	moreComment           int
	behind                string
}

func (e ending) bytes() string {
	return e.front + e.records + e.ahead + e.mark + le(e.disk, 2) + le(e.first, 2) + le(e.many, 2) + le(e.all, 2) + le(e.size, 4) + le(e.begins, 4) + le(len(e.comment)+e.moreComment, 2) + e.comment + e.behind
}

func endingOf(l ...part) ending {
	e := ending{mark: "PK\x05\x06", many: len(l), all: len(l)}
	for _, p := range l {
		e.records += p.recordAt(len(e.front) + len(p.ahead))
		e.front += p.front()
	}
	e.size, e.begins = len(e.records), len(e.front)
	return e
}

func zip(l ...part) string { return endingOf(l...).bytes() }

// but is an archive of which something is changed.
func but(do func(e *ending), l ...part) string {
	e := endingOf(l...)
	do(&e)
	return e.bytes()
}

// wide is what stands ahead of an end whose own numbers are full.
type wide struct {
	mark         string
	more         int // bytes that are told beside those that are there
	disk, first  int
	many, all    int
	size, begins int
	rest         string

	placeMark        string
	placeDisk, place int
	disks            int
	restOfPlace      string
}

func (w wide) bytes() string {
	b := le(0, 4) + le(w.disk, 4) + le(w.first, 4) + le(w.many, 8) + le(w.all, 8) + le(w.size, 8) + le(w.begins, 8) + w.rest
	return w.mark + le(len(b)+w.more, 8) + b + w.placeMark + le(w.placeDisk, 4) + le(w.place, 8) + le(w.disks, 4) + w.restOfPlace
}

// wideBut is an archive with the right wide part, of which something is changed; its end is as full as do makes it.
func wideBut(do func(e *ending, w *wide), l ...part) string {
	e := endingOf(l...)
	w := wide{mark: "PK\x06\x06", many: e.many, all: e.all, size: e.size, begins: e.begins, placeMark: "PK\x06\x07", place: len(e.front + e.records), disks: 1}
	do(&e, &w)
	e.ahead += w.bytes()
	return e.bytes()
}

// entryOf is what partOf is read as.
func entryOf(kind int, path string, mode int) api.Entry {
	return api.Entry{Kind: kind, Path: path, Mode: mode, Time: someTime}
}

func file(path, data string) api.Entry {
	e := entryOf(api.File, path, 0644)
	e.Data = data
	return e
}

func folder(path string) api.Entry { return entryOf(api.Folder, path, 0755) }

func link(path, target string) api.Entry {
	e := entryOf(api.Link, path, 0777)
	e.Target = target
	return e
}

func withTime(e api.Entry, t int64) api.Entry {
	e.Time = t
	return e
}

func withMode(e api.Entry, mode int) api.Entry {
	e.Mode = mode
	return e
}

func shown(l []api.Entry) string {
	s := fmt.Sprintf("%+v", l)
	if len(s) > 400 {
		s = s[:400] + " .."
	}
	return s
}

// readOf reads, and looks whether what it was given stayed as it was.
func readOf(t *testing.T, what, b, password string, most, entries int) ([]api.Entry, api.Errno) {
	t.Helper()
	given := []byte(b)
	l, err := zipfmt.Read(given, password, most, entries)
	if string(given) != b {
		t.Errorf("%s: changed what it was given", what)
	}
	if err != api.OK && l != nil {
		t.Errorf("%s: %v and %s", what, err, shown(l))
	}
	return l, err
}

// likeModel holds an answer against the model's, and tells its error.
func likeModel(t *testing.T, what, b string, most, entries int) api.Errno {
	t.Helper()
	l, err := readOf(t, what, b, word, most, entries)
	want, wanted := slowRead(b, word, most, entries)
	if err != wanted || !slices.Equal(l, want) {
		t.Errorf("%s: %v, %s; want %v, %s", what, err, shown(l), wanted, shown(want))
	}
	return err
}

func tells(t *testing.T, what, b string, most, entries int, want ...api.Entry) {
	t.Helper()
	likeModel(t, what, b, most, entries)
	if l, err := readOf(t, what, b, word, most, entries); err != api.OK || !slices.Equal(l, want) {
		t.Errorf("%s: %v, %s; want %s", what, err, shown(l), shown(want))
	}
}

func refuses(t *testing.T, what, b string, most, entries int, want api.Errno) {
	t.Helper()
	if err := likeModel(t, what, b, most, entries); err != want {
		t.Errorf("%s: %v; want %v", what, err, want)
	}
}

// The model: the chapter, sentence by sentence. What is amiss is thrown.

func must(is bool) { mustElse(is, api.ErrZipForm) }

func mustElse(is bool, err api.Errno) {
	if !is {
		panic(err)
	}
}

// slow goes through text; what it wants must be there.
type slow struct {
	text string
	at   int
}

func (s *slow) bytes(n int) string {
	must(n >= 0 && s.at <= len(s.text) && n <= len(s.text)-s.at)
	s.at += n
	return s.text[s.at-n : s.at]
}

func (s *slow) long() uint64 {
	var v uint64
	for at, c := range []byte(s.bytes(8)) {
		v |= uint64(c) << (8 * at)
	}
	return v
}

func (s *slow) number(n int) int {
	if n == 8 {
		v := s.long()
		must(v <= 1<<40)
		return int(v)
	}
	v := 0
	for at, c := range []byte(s.bytes(n)) {
		v |= int(c) << (8 * at)
	}
	return v
}

func (s *slow) be(text string) { must(s.bytes(len(text)) == text) }

func (s *slow) beNumber(v, n int) { must(s.number(n) == v) }

func slowEnd(b string) int {
	for at := len(b) - 22; at >= 0; at-- {
		s := slow{b, at + 20}
		if b[at:at+4] == "PK\x05\x06" && at+22+s.number(2) == len(b) {
			return at
		}
	}
	panic(api.ErrZipForm)
}

func slowRead(b, password string, most, entries int) (l []api.Entry, err api.Errno) {
	defer func() {
		if r := recover(); r != nil {
			l, err = nil, r.(api.Errno)
		}
	}()
	end := slowEnd(b)
	s := slow{b, end + 4}
	s.beNumber(0, 2)
	s.beNumber(0, 2)
	many, all, size, begins, ends := s.number(2), s.number(2), s.number(4), s.number(4), end
	must(many == all)
	if many == 65535 || size == full || begins == full {
		must(end >= 20)
		s = slow{b, end - 20}
		s.be("PK\x06\x07")
		s.beNumber(0, 4)
		ends = s.number(8)
		s.beNumber(1, 4)
		s = slow{b, ends}
		s.be("PK\x06\x06")
		more := s.number(8)
		must(more >= 44)
		must(s.at+more == end-20)
		s.bytes(4)
		s.beNumber(0, 4)
		s.beNumber(0, 4)
		many, all = s.number(8), s.number(8)
		must(many == all)
		size, begins = s.number(8), s.number(8)
	}
	must(begins+size == ends)
	mustElse(many <= entries, api.ErrTreeOver)
	r := slowReader{records: slow{b[:ends], begins}, front: b[:begins], password: password, left: most}
	for range many {
		l = append(l, r.entry())
	}
	must(r.records.at == ends)
	l = tree.Sort(l)
	mustElse(tree.Check(l) == api.OK, tree.Check(l))
	return l, api.OK
}

type slowReader struct {
	records  slow
	front    string
	password string
	left     int // bytes of data that may still come
}

// slowFields tells of each id the first field.
func slowFields(extra string) map[int]string {
	fields := map[int]string{}
	for s := (slow{extra, 0}); s.at < len(extra); {
		id := s.number(2)
		body := s.bytes(s.number(2))
		if _, is := fields[id]; !is {
			fields[id] = body
		}
	}
	return fields
}

// slowRecord is an entry of the directory, with all its numbers.
type slowRecord struct {
	version, host, flags, method, clock, day int
	sum, inside, size                        int
	attributes, place                        int
	name                                     string
	fields                                   map[int]string

	inner, sealing, strength int
}

func (r *slowReader) record() slowRecord {
	s := &r.records
	s.be("PK\x01\x02")
	c := slowRecord{version: s.number(1), host: s.number(1)}
	s.bytes(2)
	c.flags, c.method, c.clock, c.day = s.number(2), s.number(2), s.number(2), s.number(2)
	c.sum, c.inside, c.size = s.number(4), s.number(4), s.number(4)
	name, extra, comment := s.number(2), s.number(2), s.number(2)
	s.beNumber(0, 2)
	s.bytes(2)
	c.attributes, c.place = s.number(4), s.number(4)
	c.name = s.bytes(name)
	c.fields = slowFields(s.bytes(extra))
	s.bytes(comment)
	w := slow{c.fields[1], 0}
	for _, v := range []*int{&c.size, &c.inside, &c.place} {
		if *v == full {
			*v = w.number(8)
		}
	}
	return c
}

func (r *slowReader) entry() api.Entry {
	c := r.record()
	c.seal()
	mustElse(c.inner == 0 || c.inner == 8, api.ErrZipKind)
	mustElse(c.size <= r.left, api.ErrTreeOver)
	r.left -= c.size
	data := c.data(r.inside(c), r.password)
	return c.entry(data)
}

func (c *slowRecord) seal() {
	mustElse(c.flags&^(1|2|4|8|2048) == 0, api.ErrZipKind)
	c.inner = c.method
	if c.flags&1 == 0 {
		return
	}
	mustElse(c.method == 99, api.ErrZipKind)
	s := slow{c.fields[0x9901], 0}
	mustElse(len(s.text) == 7, api.ErrZipKind)
	c.sealing = s.number(2)
	mustElse(c.sealing == 1 || c.sealing == 2, api.ErrZipKind)
	mustElse(s.bytes(2) == "AE", api.ErrZipKind)
	c.strength = s.number(1)
	mustElse(1 <= c.strength && c.strength <= 3, api.ErrZipKind)
	c.inner = s.number(2)
}

func (r *slowReader) inside(c slowRecord) string {
	s := slow{r.front, c.place}
	s.be("PK\x03\x04")
	s.bytes(2)
	s.beNumber(c.flags, 2)
	s.beNumber(c.method, 2)
	s.bytes(4)
	sum, inside, size := s.number(4), s.number(4), s.number(4)
	if c.flags&8 == 0 {
		must(sum == c.sum)
		must(inside == c.inside || inside == full)
		must(size == c.size || size == full)
	}
	name, extra := s.number(2), s.number(2)
	must(s.bytes(name) == c.name)
	s.bytes(extra)
	body := s.bytes(c.inside)
	if c.flags&8 != 0 {
		numbers := le(c.sum, 4) + le(c.inside, 4) + le(c.size, 4)
		rest := r.front[s.at:]
		must(strings.HasPrefix(rest, "PK\x07\x08"+numbers) || strings.HasPrefix(rest, numbers))
	}
	return body
}

func (c slowRecord) data(body, password string) string {
	if c.flags&1 != 0 {
		b, err := counter.Open(c.strength, []byte(password), []byte(body))
		must(err != api.ErrCounterForm)
		mustElse(err == api.OK, api.ErrZipTag)
		body = string(b)
	}
	if c.inner == 8 {
		b, n, err := inflate.Inflate([]byte(body), c.size)
		must(err == api.OK && n == len(body))
		body = string(b)
	}
	must(len(body) == c.size)
	if c.sealing == 2 {
		must(c.sum == 0)
	} else {
		mustElse(c.sum == sumOf(body), api.ErrZipSum)
	}
	return body
}

func (c slowRecord) letters() string {
	name, is := c.name, c.flags&2048 != 0
	if f := c.fields[0x7075]; !is && len(f) >= 5 && f[0] == 1 && f[1:5] == le(sumOf(c.name), 4) {
		name, is = f[5:], true
	}
	if !is {
		return names.FromOem(name)
	}
	mustElse(names.Valid(name), api.ErrNameForm)
	return name
}

func (c slowRecord) entry(data string) api.Entry {
	name := c.letters()
	path, err := names.Clean(name)
	mustElse(err == api.OK, err)
	upper := c.attributes >> 16
	e := api.Entry{Kind: api.File, Path: path, Mode: upper & 07777}
	if strings.HasSuffix(name, "/") {
		e.Kind = api.Folder
	}
	if c.host == 3 && upper>>12 != 0 {
		e.Kind = map[int]int{4: api.Folder, 10: api.Link, 8: api.File}[upper>>12]
		mustElse(e.Kind != 0, api.ErrZipKind)
	}
	if c.host != 3 {
		e.Mode = 0644
		if e.Kind == api.Folder {
			e.Mode = 0755
		}
	}
	must(e.Kind != api.Folder || data == "")
	if e.Kind == api.Link {
		e.Target = data
	} else {
		e.Data = data
	}
	e.Time = c.time()
	return e
}

func (c slowRecord) time() int64 {
	if f := c.fields[10]; len(f) >= 16 && f[4:8] == "\x01\x00\x18\x00" {
		s := slow{f, 8}
		t, is := times.FromNt(s.long())
		mustElse(is, api.ErrTimeOver)
		return t
	}
	if f := c.fields[0x5455]; len(f) >= 5 && f[0]&1 == 1 {
		s := slow{f, 1}
		return int64(int32(uint32(s.number(4)))) * sec
	}
	t, _ := times.FromDos(uint16(c.day), uint16(c.clock))
	return t
}
