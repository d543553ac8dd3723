package tarfmt_test

import (
	"fmt"
	"slices"
	"strconv"
	"strings"
	"testing"

	"wainload/api"
	"wainload/fields"
	"wainload/names"
	"wainload/tarfmt"
	"wainload/times"
	"wainload/tree"
)

const (
	ustar = "ustar\x0000"
	gnu   = "ustar  \x00"
	sec   = 1000000000

	// plenty is a limit that no archive of these tests comes to.
	plenty = 1 << 24
)

// end is what an archive ends with.
var end = strings.Repeat("\x00", 1024)

// head is a header, place by place, as the bytes that stand there; part makes right what is empty.
type head struct {
	name, mode, size, time, sum, letter, link, mark, prefix string
}

// bytes has what is empty as noughts.
func (h head) bytes() string {
	b := make([]byte, 512)
	for _, x := range []struct {
		at, long int
		s        string
	}{
		{0, 100, h.name}, {100, 8, h.mode}, {124, 12, h.size}, {136, 12, h.time}, {148, 8, h.sum},
		{156, 1, h.letter}, {157, 100, h.link}, {257, 8, h.mark}, {345, 155, h.prefix},
	} {
		if len(x.s) > x.long {
			panic(fmt.Sprintf("%q at %d", x.s, x.at))
		}
		copy(b[x.at:], x.s)
	}
	return string(b)
}

// total is the right sum, if all of h is there but the sum.
func (h head) total() int {
	h.sum = strings.Repeat(" ", 8)
	n := 0
	for _, c := range []byte(h.bytes()) {
		n += int(c)
	}
	return n
}

// whole makes right what is empty: a File of that many bytes, marked, with its sum.
func (h head) whole(size int) head {
	if h.mode == "" {
		h.mode = "0000644\x00"
	}
	if h.size == "" {
		h.size = fmt.Sprintf("%011o", size)
	}
	if h.time == "" {
		h.time = "00000000007"
	}
	if h.letter == "" {
		h.letter = "0"
	}
	if h.mark == "" {
		h.mark = ustar
	}
	if h.sum == "" {
		h.sum = fmt.Sprintf("%06o\x00 ", h.total())
	}
	return h
}

func filled(s string) string { return s + strings.Repeat("\x00", (512-len(s)%512)%512) }

// part is a header and what stands behind it.
func part(h head, body string) string { return h.whole(len(body)).bytes() + filled(body) }

func partFile(name, data string) string { return part(head{name: name}, data) }

func partFolder(name string) string { return part(head{name: name, letter: "5"}, "") }

func partLink(name, target string) string {
	return part(head{name: name, letter: "2", link: target}, "")
}

// said is a part of such a type: x and g, with records; L and K, with a text.
func said(letter, body string) string { return part(head{name: "said", letter: letter}, body) }

func rec(key, value string) string { return slowRecords([][2]string{{key, value}}) }

// big is a number in so many bytes, the highest first, behind a byte 128.
func big(v uint64, n int) string {
	b := make([]byte, n)
	for at := n - 1; at > 0; at-- {
		b[at] = byte(v)
		v >>= 8
	}
	b[0] = 128
	return string(b)
}

// file is what partFile is read as.
func file(path, data string) api.Entry {
	return api.Entry{Kind: api.File, Path: path, Mode: 0644, Time: 7 * sec, Data: data}
}

func folder(path string) api.Entry {
	return api.Entry{Kind: api.Folder, Path: path, Mode: 0644, Time: 7 * sec}
}

func link(path, target string) api.Entry {
	return api.Entry{Kind: api.Link, Path: path, Target: target, Mode: 0644, Time: 7 * sec}
}

func withTime(e api.Entry, t int64) api.Entry {
	e.Time = t
	return e
}

func withMode(e api.Entry, mode int) api.Entry {
	e.Mode = mode
	return e
}

// slowRecords tries each number.
func slowRecords(l [][2]string) string {
	s := ""
	for _, x := range l {
		for n := 0; ; n++ {
			one := strconv.Itoa(n) + " " + x[0] + "=" + x[1] + "\n"
			if len(one) == n {
				s += one
				break
			}
		}
	}
	return s
}

// slowParse takes byte after byte.
func slowParse(s string) ([][2]string, bool) {
	var l [][2]string
	for len(s) > 0 {
		at := 0
		for at < len(s) && s[at] >= '0' && s[at] <= '9' {
			at++
		}
		n, err := strconv.Atoi(s[:at])
		if err != nil || s[0] == '0' || at == len(s) || s[at] != ' ' || n > len(s) || n <= at+1 || s[n-1] != 10 {
			return nil, false
		}
		key := ""
		for at++; at < n-1 && s[at] != '='; at++ {
			key += s[at : at+1]
		}
		if key == "" || at >= n-1 {
			return nil, false
		}
		l = append(l, [2]string{key, s[at+1 : n-1]})
		s = s[n:]
	}
	return l, true
}

// slow is P17.2 word by word; it panics with an Errno where something is amiss.
type slow struct {
	b             []byte
	at            int
	most, entries int
	x, g          [][2]string // the last one of a key counts
	long, longTo  []string    // GNU's names: the last one counts
	told          []api.Entry
}

func amissIf(is bool, e api.Errno) {
	if is {
		panic(e)
	}
}

func upTo0(b []byte) string {
	for n, c := range b {
		if c == 0 {
			return string(b[:n])
		}
	}
	return string(b)
}

func octal(b []byte) int {
	v, e := fields.Octal(b)
	amissIf(e != api.OK, api.ErrTarForm)
	return v
}

// last asks x, and then g.
func (s *slow) last(key string) (string, bool) {
	for _, l := range [][][2]string{s.x, s.g} {
		for n := len(l) - 1; n >= 0; n-- {
			if l[n][0] == key {
				return l[n][1], true
			}
		}
	}
	return "", false
}

func (s *slow) block() []byte {
	amissIf(len(s.b)-s.at < 512, api.ErrTarForm)
	s.at += 512
	return s.b[s.at-512 : s.at]
}

var noughts = make([]byte, 512)

// step tells whether the archive goes on.
func (s *slow) step() bool {
	h := s.block()
	if slices.Equal(h, noughts) {
		amissIf(!slices.Equal(s.block(), noughts), api.ErrTarForm)
		return false
	}
	mode, size, time, sum := octal(h[100:108]), octal(h[124:136]), octal(h[136:148]), octal(h[148:156])
	for n, c := range h {
		if n >= 148 && n < 156 {
			c = 32
		}
		sum -= int(c)
	}
	amissIf(sum != 0, api.ErrTarSum)
	mark := string(h[257:265])
	amissIf(mark != ustar && mark != gnu, api.ErrTarForm)
	body := s.body(h[156], size)
	switch h[156] {
	case 'x', 'g':
		l, is := slowParse(string(body))
		amissIf(!is, api.ErrTarForm)
		if h[156] == 'x' {
			s.x = append(s.x, l...)
		} else {
			s.g = append(s.g, l...)
		}
	case 'L':
		s.long = append(s.long, upTo0(body))
	case 'K':
		s.longTo = append(s.longTo, upTo0(body))
	default:
		s.entry(h, body, mode, time)
	}
	return true
}

func (s *slow) body(letter byte, size int) []byte {
	if v, is := s.last("size"); is && (letter == '0' || letter == 0) {
		var e api.Errno
		size, e = fields.Decimal(v)
		amissIf(e != api.OK, api.ErrTarForm)
	}
	amissIf(size < 0 || size > 1<<40 || size > len(s.b)-s.at, api.ErrTarForm)
	body := s.b[s.at : s.at+size]
	for s.at += size; s.at < len(s.b) && s.at%512 > 0; s.at++ {
	}
	return body
}

func (s *slow) entry(h, body []byte, mode, time int) {
	e := api.Entry{Mode: mode % 4096}
	switch h[156] {
	case '0', 0:
		e.Kind = api.File
		e.Data = string(body)
	case '5':
		e.Kind = api.Folder
	case '2':
		e.Kind = api.Link
		e.Target = s.name("linkpath", s.longTo, upTo0(h[157:257]))
	default:
		panic(api.ErrTarKind)
	}
	amissIf(e.Kind != api.File && len(body) > 0, api.ErrTarForm)
	own := upTo0(h[:100])
	if prefix := upTo0(h[345:500]); prefix != "" && string(h[257:265]) == ustar {
		own = prefix + "/" + own
	}
	clean, err := names.Clean(s.name("path", s.long, own))
	amissIf(err != api.OK, err)
	e.Path, e.Time = clean, s.time(time)
	s.told = append(s.told, e)
	amissIf(len(s.told) > s.entries, api.ErrTreeOver)
	amissIf(tree.Size(s.told) > s.most, api.ErrTreeOver)
	s.x, s.long, s.longTo = nil, nil, nil
}

func (s *slow) name(key string, long []string, own string) string {
	if v, is := s.last(key); is {
		return v
	}
	if len(long) > 0 {
		return long[len(long)-1]
	}
	return own
}

func (s *slow) time(seconds int) int64 {
	v, is := s.last("mtime")
	if !is {
		t, can := times.FromUnix(seconds)
		amissIf(!can, api.ErrTimeOver)
		return t
	}
	t, err := fields.Seconds(v)
	amissIf(err == api.ErrFieldForm, api.ErrTarForm)
	amissIf(err == api.ErrFieldOver, api.ErrTimeOver)
	return t
}

func slowRead(b []byte, most, entries int) (l []api.Entry, e api.Errno) {
	defer func() {
		if amiss := recover(); amiss != nil {
			l, e = nil, amiss.(api.Errno)
		}
	}()
	s := &slow{b: b, most: most, entries: entries}
	for s.step() {
	}
	l = tree.Sort(s.told)
	err := tree.Check(l)
	amissIf(err != api.OK, err)
	return l, api.OK
}

// slowWrite is P17.3 word by word, of a tree that tar can hold.
func slowWrite(t []api.Entry) string {
	s := ""
	for _, e := range t {
		s += slowEntry(e)
	}
	return s + end
}

func slowEntry(e api.Entry) string {
	var l [][2]string
	if len(e.Path) > 100 {
		l = append(l, [2]string{"path", e.Path})
	}
	if len(e.Target) > 100 {
		l = append(l, [2]string{"linkpath", e.Target})
	}
	seconds := e.Time / sec
	if e.Time < 0 || e.Time%sec > 0 || seconds > 1<<33-1 {
		l = append(l, [2]string{"mtime", fields.PutSeconds(e.Time)})
		seconds = 0
	}
	s := ""
	if len(l) > 0 {
		records := slowRecords(l)
		s = slowHead("pax", 0644, len(records), 0, "x", "") + filled(records)
	}
	letter := map[int]string{api.File: "0", api.Folder: "5", api.Link: "2"}[e.Kind]
	return s + slowHead(e.Path[:min(100, len(e.Path))], e.Mode, len(e.Data), seconds, letter, e.Target[:min(100, len(e.Target))]) + filled(e.Data)
}

func slowHead(name string, mode, size int, seconds int64, letter, link string) string {
	h := head{name: name, mode: fmt.Sprintf("%07o", mode), size: fmt.Sprintf("%011o", size), time: fmt.Sprintf("%011o", seconds), letter: letter, link: link, mark: ustar}
	h.sum = fmt.Sprintf("%07o", h.total())
	return h.bytes()
}

// shown is a list of entries for a message.
func shown(t []api.Entry) string { return fmt.Sprintf("%.300q", fmt.Sprint(t)) }

// tells holds that Read tells these entries, and that it leaves what it is given as it was.
func tells(t *testing.T, what, s string, most, entries int, want ...api.Entry) {
	t.Helper()
	b := []byte(s)
	l, e := tarfmt.Read(b, most, entries)
	if e != api.OK || !slices.Equal(l, want) {
		t.Errorf("%s: %s, %d; want %s", what, shown(l), e, shown(want))
	}
	if string(b) != s {
		t.Errorf("%s: the bytes were changed", what)
	}
}

// refuses holds that Read tells this error, and no entry beside it.
func refuses(t *testing.T, what, s string, most, entries int, want api.Errno) {
	t.Helper()
	b := []byte(s)
	l, e := tarfmt.Read(b, most, entries)
	if e != want || len(l) != 0 {
		t.Errorf("%s: %s, %d; want %d", what, shown(l), e, want)
	}
	if string(b) != s {
		t.Errorf("%s: the bytes were changed", what)
	}
}

// likeModel holds Read against the model.
func likeModel(t *testing.T, what, s string, most, entries int) api.Errno {
	t.Helper()
	l, e := slowRead([]byte(s), most, entries)
	if e != api.OK {
		refuses(t, what, s, most, entries, e)
	} else {
		tells(t, what, s, most, entries, l...)
	}
	return e
}

// The models too are held against what is plain.
func TestModel(t *testing.T) {
	if s := slowRecords([][2]string{{"path", "a"}, {"k", "vvvvv"}}); s != "9 path=a\n11 k=vvvvv\n" {
		t.Errorf("slowRecords: %q", s)
	}
	if l, is := slowParse("9 path=a\n6 k==\n"); !is || !slices.Equal(l, [][2]string{{"path", "a"}, {"k", "="}}) {
		t.Error("slowParse:", l, is)
	}
	if l, is := slowParse("9 path=a"); is || len(l) > 0 {
		t.Error("slowParse:", l, is)
	}
	s := partFolder("d") + partFile("d/f", "data") + partLink("l", "d")
	if l, e := slowRead([]byte(s+end), 4, 3); e != api.OK || !slices.Equal(l, []api.Entry{folder("d"), file("d/f", "data"), link("l", "d")}) {
		t.Error("slowRead:", shown(l), e)
	}
	if l, e := slowRead([]byte(s), 4, 3); e != api.ErrTarForm || len(l) > 0 {
		t.Error("slowRead:", shown(l), e)
	}
	if s := slowWrite(nil); s != end {
		t.Errorf("slowWrite: %q", s)
	}
}
