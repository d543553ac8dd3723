package zipfmt_test

import (
	"fmt"
	"math"
	"math/rand"
	"strings"
	"testing"

	"wainload/api"
)

// amiss are things that may be amiss with an entry, in the order in which they are told. (The limit is 8 bytes.)
var amiss = []struct {
	what string
	do   func(p *part)
	err  api.Errno
}{
	{"a disk", func(p *part) { p.disk = 1 }, api.ErrZipForm},
	{"fields cut off", func(p *part) { p.record.extra += "x" }, api.ErrZipForm},
	{"no wide number", func(p *part) { p.place, p.isPlaced = full, true }, api.ErrZipForm},
	{"a flag", func(p *part) { p.record.flags |= 32 }, api.ErrZipKind},
	{"a method", func(p *part) { p.record.method = 12 }, api.ErrZipKind},
	{"bytes too many", func(p *part) { p.record.size = 1000 }, api.ErrTreeOver},
	{"a mark", func(p *part) { p.local.mark = "PK\x03\x05" }, api.ErrZipForm},
	{"local flags", func(p *part) { p.local.flags |= 2 }, api.ErrZipForm},
	{"local numbers", func(p *part) { p.local.size++ }, api.ErrZipForm},
	{"a local name", func(p *part) { p.local.name += "x" }, api.ErrZipForm},
	{"a sum", func(p *part) { p.record.sum, p.local.sum = p.record.sum^1, p.local.sum^1 }, api.ErrZipSum},
	{"a path", func(p *part) { p.record.name, p.local.name = "../"+p.record.name, "../"+p.local.name }, api.ErrNameForm},
	{"a kind", func(p *part) { p.attributes |= 1 << 28 }, api.ErrZipKind},
	{"a Folder with data", func(p *part) { p.attributes = 4 << 28 }, api.ErrZipForm},
	{"a time", func(p *part) { p.record.extra = ntTimes(0) + p.record.extra }, api.ErrTimeOver},
	{"below a File", func(p *part) { p.record.name, p.local.name = p.record.name+"/c", p.local.name+"/c" }, api.ErrTreeForm},
}

// excludes tells of things that can't both be amiss with one entry.
func excludes(i, j int) bool {
	return amiss[i].what == "a kind" && amiss[j].what == "a Folder with data"
}

func partAmiss(of ...int) part {
	p := partFile("b", "data")
	for _, n := range of {
		p = p.with(amiss[n].do)
	}
	return p
}

func TestReadOfTwoThingsAmissWithOneEntry(t *testing.T) { // P18.2
	b := partFile("b", "")
	for i, x := range amiss {
		refuses(t, x.what, zip(b, partAmiss(i)), 8, 9, x.err)
		for j := i + 1; j < len(amiss); j++ {
			if excludes(i, j) {
				continue
			}
			what := x.what + ", " + amiss[j].what
			refuses(t, what, zip(b, partAmiss(i, j)), 8, 9, x.err)
			for k := j + 1; k < len(amiss); k++ {
				if !excludes(i, k) && !excludes(j, k) {
					refuses(t, what+", "+amiss[k].what, zip(b, partAmiss(i, j, k)), 8, 9, x.err)
				}
			}
		}
	}
}

func TestReadOfTwoEntriesAmiss(t *testing.T) { // P18.1, P18.2
	last := len(amiss) - 1 // it is told at the end
	b := partFile("b", "")
	for i, x := range amiss {
		for j, y := range amiss {
			want := x.err
			if i == last {
				want = y.err
			}
			refuses(t, "first "+x.what+", then "+y.what, zip(b, partAmiss(i), partAmiss(j)), 8, 9, want)
			refuses(t, "first "+x.what+", then an entry, then "+y.what, zip(b, partAmiss(i), partFile("c", ""), partAmiss(j)), 8, 9, want)
		}
		want := x.err
		if i == last {
			want = api.ErrZipForm
		}
		refuses(t, "first "+x.what+", then an entry that is not there", but(func(e *ending) { e.many, e.all = 3, 3 }, b, partAmiss(i)), 8, 9, want)
		refuses(t, "first "+x.what+", then a byte too many", but(func(e *ending) { e.ahead, e.size = "x", e.size+1 }, b, partAmiss(i)), 8, 9, want)
		refuses(t, x.what+", but too many entries", zip(b, partAmiss(i)), 8, 1, api.ErrTreeOver)
		refuses(t, x.what+", but no directory", but(func(e *ending) { e.size++ }, b, partAmiss(i)), 8, 1, api.ErrZipForm)
		refuses(t, x.what+", but other numbers", but(func(e *ending) { e.all++ }, b, partAmiss(i)), 8, 1, api.ErrZipForm)
	}
}

// Of what is sealed or deflated too the order is the document's.
func TestReadOfTwoThingsAmissWithData(t *testing.T) { // P18.2
	broken := func(p part) part {
		return p.with(func(p *part) { p.body = "x" + p.body[1:] })
	}
	local := func(p part) part { return p.with(func(p *part) { p.local.name += "x" }) }
	summed := func(p part) part { return p.both(func(h *head) { h.sum ^= 1 }) }
	folder := func(p part) part { return p.from(3, 4<<28) }
	named := func(p part) part {
		return p.both(func(h *head) { h.name = ".." })
	}
	one, two, small := partFile("a", "some").sealed(1, 1), partFile("a", "some").sealed(2, 1), partFile("a", "some").small()
	for what, c := range map[string]struct {
		p    part
		want api.Errno
	}{
		"a local name, a tag":          {local(broken(one)), api.ErrZipForm},
		"a tag, a sum":                 {summed(broken(one)), api.ErrZipTag},
		"a tag, a sum not 0":           {summed(broken(two)), api.ErrZipTag},
		"a tag, a name":                {named(broken(two)), api.ErrZipTag},
		"a sum, a name":                {named(summed(one)), api.ErrZipSum},
		"a sum not 0, a name":          {named(summed(two)), api.ErrZipForm},
		"a stream, a sum":              {summed(small.streamed("x")), api.ErrZipForm},
		"a sum, a Folder":              {folder(summed(small)), api.ErrZipSum},
		"a name, a Folder":             {folder(named(small)), api.ErrNameForm},
		"a Folder, a time":             {folder(one).extra(ntTimes(0)), api.ErrZipForm},
		"a number of bytes, a sum":     {summed(partFile("a", "some").both(func(h *head) { h.size = 5 })), api.ErrZipForm},
		"a number of bytes, version 2": {summed(two.both(func(h *head) { h.size = 5 })), api.ErrZipForm},
		"a tag, a stream":              {broken(small.streamed("x").sealed(2, 1)), api.ErrZipTag},
		"a stream, a sum not 0":        {summed(small.streamed("x").sealed(2, 1)), api.ErrZipForm},
		"a tag, bytes too many":        {broken(one).both(func(h *head) { h.size = 9 }), api.ErrTreeOver},
	} {
		refuses(t, what, zip(c.p), 8, 1, c.want)
		refuses(t, what+", and another", zip(c.p, partFile("../b", "")), 8, 2, c.want)
	}
}

// everything is an archive with each thing that a right one may have.
func everything() (string, []api.Entry) {
	text := strings.Repeat("text ", 20)
	b := partFile("a/b", text).small().late("PK\x07\x08").extra(ntTimes(since + 5))
	c := old("\x82").titled(1, sumOf("\x82"), "c").from(0, 0).late("").extra(unixTime(1, -7))
	b.comment, b.local.extra, c.ahead = "comment", "local", "ahead"
	l := []part{partFolder("a/"), b, c, partLink("l", "a/b"), wideOf(partFile("s", "sealed"), true, true, false, 0).sealed(2, 1).with(func(p *part) {
		p.record.extra = field(1, le(6, 8)+le(p.record.inside, 8)) + sealField(2, 1, 0)
		p.record.inside, p.isPlaced = full, false
	})}
	s := wideBut(func(e *ending, w *wide) {
		e.begins, e.comment, w.rest = full, "the end's comment", "more"
	}, l...)
	return s, []api.Entry{folder("a"), withTime(file("a/b", text), 500), withTime(file("c", ""), -7*sec), link("l", "a/b"), file("s", "sealed")}
}

func TestReadOfEverything(t *testing.T) { // P18.1, P18.2
	s, want := everything()
	tells(t, "everything", s, 109, 5, want...)
	refuses(t, "a byte less", s, 108, 5, api.ErrTreeOver)
	refuses(t, "an entry less", s, 109, 4, api.ErrTreeOver)
}

func TestReadCutAtEveryPlace(t *testing.T) { // P18.1, P18.2
	s, want := everything()
	for cut := range len(s) {
		refuses(t, fmt.Sprint("cut at ", cut), s[:cut], 109, 5, api.ErrZipForm)
		likeModel(t, fmt.Sprint("from ", cut+1), s[cut+1:], 109, 5)
		likeModel(t, fmt.Sprint("without ", cut), s[:cut]+s[cut+1:], 109, 5)
	}
	tells(t, "whole", s, 109, 5, want...)
}

func TestReadWithEveryByteTurned(t *testing.T) { // P18.1, P18.2
	s, _ := everything()
	met := map[api.Errno]int{}
	for at := range s {
		for _, by := range []byte{1, 8, 128, 255} {
			b := []byte(s)
			b[at] ^= by
			met[likeModel(t, fmt.Sprint("byte ", at, " by ", by), string(b), 109, 5)]++
		}
	}
	for _, err := range []api.Errno{api.OK, api.ErrZipForm, api.ErrZipKind, api.ErrZipSum, api.ErrZipTag, api.ErrNameForm, api.ErrTimeOver, api.ErrTreeOver} {
		if met[err] == 0 {
			t.Error("not met:", err)
		}
	}
}

// chance makes archives by chance: most of them are right nearly all the way.
type chance struct{ *rand.Rand }

func (c chance) of(l ...string) string { return l[c.Intn(len(l))] }

func (c chance) once(in int) bool { return c.Intn(in) == 0 }

func (c chance) text() string {
	b := make([]byte, c.Intn(12))
	for at := range b {
		b[at] = byte(c.Intn(3))
	}
	return c.of("", "t", "text", "text", strings.Repeat("text", 1+c.Intn(20)), string(b)+"x")
}

func (c chance) name() string {
	if c.once(40) {
		return c.of("", "/a", "..", "a\x00", "\xff", strings.Repeat("n", 201))
	}
	return c.of("a", "b", "c", "d/e", "d/f", "d/g/h", "é", "\x82", "./i", "j//k", "l/", "m/") + c.of("", "", "1", "2", "3")
}

func (c chance) number() int {
	return [...]int{0, 1, 2, 8, 65535, full, full - 1, 1 << 31, 1 << 40, 1<<40 + 1, -1, math.MaxInt, math.MinInt, c.Intn(100)}[c.Intn(14)]
}

func (c chance) timed(p part) part {
	switch c.Intn(8) {
	case 0:
		return p.extra(ntTimes(since + c.Intn(1000) - 500))
	case 1:
		return p.extra(unixTime(c.Intn(4), c.Intn(1000)-500))
	case 2:
		return p.extra(ntTimes(c.number()))
	case 3:
		return p.both(func(h *head) { h.day, h.clock = c.Intn(65536), c.Intn(65536) })
	}
	return p
}

func (c chance) made(p part) part {
	if c.once(3) {
		p = p.small()
	}
	if c.once(30) {
		p = p.sealed(1+c.Intn(2), 1)
	}
	if c.once(4) {
		p = p.late(c.of("", "PK\x07\x08"))
	}
	if c.once(20) {
		p.local.inside, p.local.size = full, full
	}
	return p
}

func (c chance) part() part {
	name := c.name()
	var p part
	switch c.Intn(6) {
	case 0:
		p = partFolder(name)
	case 1:
		p = partLink(name, c.text())
	case 2:
		p = partFile(name, c.text()).from(c.Intn(4), c.Intn(16)<<28|c.Intn(1<<12)<<16)
	default:
		p = partFile(name, c.text())
	}
	p = c.timed(c.made(p))
	if c.once(4) {
		p = p.both(func(h *head) { h.flags &^= 2048 })
		p = p.titled(1, sumOf(name), c.name())
	}
	if c.once(5) {
		p.comment, p.ahead, p.local.extra = c.text(), c.text(), c.text()
	}
	return p
}

// broken has something amiss with it, now and then.
func (c chance) broken(p part) part {
	switch c.Intn(14) {
	case 0:
		return p.with(amiss[c.Intn(len(amiss))].do)
	case 1:
		return p.both(func(h *head) {
			*[]*int{&h.flags, &h.method, &h.sum, &h.inside, &h.size, &h.clock, &h.day}[c.Intn(7)] = c.number()
		})
	case 2:
		return p.at(c.number()).extra(field(1, le(c.number(), 8)+le(c.number(), 8)+le(c.number(), 8)))
	case 3:
		return p.extra(field([]int{1, 10, 0x5455, 0x7075, 0x9901}[c.Intn(5)], c.text()))
	case 4:
		return p.with(func(p *part) { p.behind += c.text() })
	}
	return p
}

func (c chance) archive() string {
	var l []part
	for range c.Intn(4) {
		p := c.part()
		if c.once(5) {
			p = c.broken(p)
		}
		l = append(l, p)
	}
	s := ""
	switch c.Intn(12) {
	case 0:
		s = wideBut(func(e *ending, w *wide) { wants[c.Intn(len(wants))].do(e) }, l...)
	case 1:
		s = wideBut(func(e *ending, w *wide) {
			e.size = full
			*[]*int{&w.many, &w.all, &w.size, &w.begins, &w.place, &w.disks, &w.more}[c.Intn(7)] = c.number()
		}, l...)
	case 2:
		s = but(func(e *ending) {
			*[]*int{&e.many, &e.all, &e.size, &e.begins, &e.disk, &e.moreComment}[c.Intn(6)] = c.number()
		}, l...)
	case 3:
		s = but(func(e *ending) { e.comment = c.text() }, l...)
	default:
		s = zip(l...)
	}
	if len(s) > 0 && c.once(8) {
		b := []byte(s)
		b[c.Intn(len(b))] ^= 1 << c.Intn(8)
		s = string(b)
	}
	return s
}

func TestReadByChance(t *testing.T) { // P18.1, P18.2
	c := chance{rand.New(rand.NewSource(18))}
	met := map[api.Errno]int{}
	for n := range 30000 {
		s := c.archive()
		met[likeModel(t, fmt.Sprint("archive ", n), s, c.Intn(200), c.Intn(20))]++
	}
	for _, err := range []api.Errno{api.OK, api.ErrNameForm, api.ErrTimeOver, api.ErrTreeForm, api.ErrTreeTwice, api.ErrTreeOver, api.ErrZipForm, api.ErrZipSum, api.ErrZipKind, api.ErrZipTag} {
		if met[err] < 10 {
			t.Error("hardly met:", err, met[err])
		}
	}
}
