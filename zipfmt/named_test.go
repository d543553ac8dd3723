package zipfmt_test

import (
	"fmt"
	"math"
	"strings"
	"testing"

	"wainload/api"
	"wainload/times"
)

// What an entry is: its name, its kind, its mode and its time; and whether all of them are a tree.

// old has the name in the letters of old.
func old(name string) part {
	return partFile(name, "").both(func(h *head) { h.flags = 0 })
}

// titled has a field that says another name, of that version and sum.
func (p part) titled(version, sum int, name string) part {
	return p.extra(field(0x7075, le(version, 1)+le(sum, 4)+name))
}

func TestReadOfNamesAsTheyStand(t *testing.T) { // P18.2
	for _, name := range []string{"a", "a/b/c", "é", "日本語", "a b", "A", "\u0301", "\U0001f600", "a\\b", strings.Repeat("n", 200), ".a", "a.", "a..b", "...", "\t"} {
		tells(t, fmt.Sprintf("%.30q", name), zip(partFile(name, "")), 0, 1, file(name, ""))
	}
	for name, path := range map[string]string{"./a": "a", "a//b": "a/b", "a/./b": "a/b", "a/.": "a", "././a//./b": "a/b"} {
		tells(t, fmt.Sprintf("%.30q", name), zip(partFile(name, "")), 0, 1, file(path, ""))
	}
	for _, name := range []string{"", "/", ".", "..", "../a", "a/..", "a/../b", "/a", "//a", strings.Repeat("n", 201), "a\x00", "\xff", "a\x82", "\xc0\xaf", "\xed\xa0\x80", "é"[:1], "a/\xff/b", "./"} {
		refuses(t, fmt.Sprintf("%.30q", name), zip(partFile(name, "")), 0, 1, api.ErrNameForm)
		refuses(t, fmt.Sprintf("%.30q of a Folder", name), zip(partFolder(name)), 0, 1, api.ErrNameForm)
	}
	// With the bit 2048 the field does not count.
	tells(t, "a field beside it", zip(partFile("a", "").titled(1, sumOf("a"), "b")), 0, 1, file("a", ""))
	refuses(t, "a field beside what is not valid", zip(partFile("\xff", "").titled(1, sumOf("\xff"), "b")), 0, 1, api.ErrNameForm)
}

func TestReadOfNamesInOldLetters(t *testing.T) { // P18.2
	for name, path := range map[string]string{"a": "a", "\x82": "é", "a\xff/\x80": "a\u00a0/Ç", "\xc0\xaf": "└»", "\xc3\xa9": "├⌐", "a//b/.": "a/b", "\xe1": "ß", "\x7f": "\x7f", "\x01": "\x01"} {
		tells(t, fmt.Sprintf("%q", name), zip(old(name)), 0, 1, file(path, ""))
	}
	for c := 1; c < 256; c++ {
		if name := string([]byte{'a', byte(c)}); likeModel(t, fmt.Sprintf("%q", name), zip(old(name)), 0, 1) != api.OK {
			t.Errorf("%q", name)
		}
	}
	for _, name := range []string{"", "/a", "..", "\x00", strings.Repeat("\x82", 101)} {
		refuses(t, fmt.Sprintf("%.30q", name), zip(old(name)), 0, 1, api.ErrNameForm)
	}
	tells(t, "200 bytes, of letters of two", zip(old(strings.Repeat("\x82", 100))), 0, 1, file(strings.Repeat("é", 100), ""))
}

func TestReadOfNamesInFields(t *testing.T) { // P18.2
	right := sumOf("n\x82")
	n := old("n\x82")
	tells(t, "no field", zip(n), 0, 1, file("né", ""))
	for name, path := range map[string]string{"b": "b", "日本": "日本", "a//b/./c": "a/b/c", strings.Repeat("x", 200): strings.Repeat("x", 200)} {
		tells(t, fmt.Sprintf("%.30q", name), zip(n.titled(1, right, name)), 0, 1, file(path, ""))
		tells(t, fmt.Sprintf("%.30q behind others", name), zip(n.extra(field(7, "x")).titled(1, right, name).extra(field(8, ""))), 0, 1, file(path, ""))
	}
	for _, name := range []string{"", "..", "/a", "\xff", "\x82", "a\x00", strings.Repeat("x", 201), "\xed\xa0\x80"} {
		refuses(t, fmt.Sprintf("%.30q", name), zip(n.titled(1, right, name)), 0, 1, api.ErrNameForm)
	}
	// One that doesn't count is no name at all, whatever it says.
	for _, name := range []string{"b", "", "..", "\xff"} {
		for _, version := range []int{0, 2, 255} {
			tells(t, fmt.Sprintf("%q of version %d", name, version), zip(n.titled(version, right, name)), 0, 1, file("né", ""))
		}
		for _, sum := range []int{0, right + 1, sumOf("né"), sumOf(name), sumOf("n"), int(^uint32(right)), right ^ 1<<31} {
			tells(t, fmt.Sprintf("%q of the sum %x", name, sum), zip(n.titled(1, sum, name)), 0, 1, file("né", ""))
		}
	}
	whole := "\x01" + le(right, 4) + "b"
	for cut := range 5 {
		tells(t, fmt.Sprint("cut at ", cut), zip(n.extra(field(0x7075, whole[:cut]))), 0, 1, file("né", ""))
	}
	refuses(t, "no name in it", zip(n.extra(field(0x7075, whole[:5]))), 0, 1, api.ErrNameForm)
	tells(t, "of another id", zip(n.extra(field(0x7570, whole)+field(0x6375, whole))), 0, 1, file("né", ""))
	tells(t, "of the local header", zip(n.with(func(p *part) { p.local.extra = field(0x7075, whole) })), 0, 1, file("né", ""))
	refuses(t, "of no name", zip(old("").titled(1, 1, "b")), 0, 1, api.ErrNameForm)
	tells(t, "of no name, with its sum", zip(old("").titled(1, sumOf(""), "b")), 0, 1, file("b", ""))
	tells(t, "of a name that may not be", zip(old("../..").titled(1, sumOf("../.."), "b")), 0, 1, file("b", ""))
}

func TestReadOfKinds(t *testing.T) { // P18.2
	for upper := range 16 {
		for _, name := range []string{"a", "a/"} {
			for _, lower := range []int{0, 0x10, 0xffff} {
				what := fmt.Sprintf("upper %d, lower %x, of %s", upper, lower, name)
				s := zip(partFile(name, "").from(3, upper<<28|0640<<16|lower))
				switch upper {
				case 4:
					tells(t, what, s, 0, 1, withMode(folder("a"), 0640))
				case 8:
					tells(t, what, s, 0, 1, withMode(file("a", ""), 0640))
				case 10: // no Link, without a Target
					refuses(t, what, s, 0, 1, api.ErrTreeForm)
					tells(t, what+", to", zip(partFile(name, "to").from(3, upper<<28|0640<<16|lower)), 2, 1, withMode(link("a", "to"), 0640))
				case 0:
					want := map[string]api.Entry{"a": withMode(file("a", ""), 0640), "a/": withMode(folder("a"), 0640)}[name]
					tells(t, what, s, 0, 1, want)
				default:
					refuses(t, what, s, 0, 1, api.ErrZipKind)
				}
				for _, host := range []int{0, 1, 2, 4, 10, 11, 19, 131, 255} { // of another host they say nothing
					want := map[string]api.Entry{"a": file("a", ""), "a/": folder("a")}[name]
					tells(t, fmt.Sprint(what, ", host ", host), zip(partFile(name, "").from(host, upper<<28|0640<<16|lower)), 0, 1, want)
				}
			}
		}
	}
}

func TestReadOfKindsAndTheirData(t *testing.T) { // P18.2
	tells(t, "a File", zip(partFile("a", "to")), 2, 1, file("a", "to"))
	tells(t, "a File with a slash", zip(partFile("a/", "to")), 2, 1, file("a", "to"))
	tells(t, "a Link", zip(partLink("a", "to")), 2, 1, link("a", "to"))
	tells(t, "a Link with a slash", zip(partLink("a/", "to")), 2, 1, link("a", "to"))
	tells(t, "a Link, deflated", zip(partLink("a", "../to").small()), 5, 1, link("a", "../to"))
	tells(t, "a Folder", zip(partFolder("a")), 0, 1, folder("a"))
	tells(t, "a Folder, deflated", zip(partFolder("a/").small()), 0, 1, folder("a"))
	for what, p := range map[string]part{
		"by its attributes":   partOf("a", "d", 4<<12|0755),
		"by both":             partOf("a/", "d", 4<<12|0755),
		"by its slash":        partOf("a/", "d", 0),
		"of another host":     partOf("a/", "d", 0).from(0, 16),
		"in the letters":      old("a").titled(1, sumOf("a"), "b/").from(0, 0).with(func(p *part) { p.body = "d" }).both(func(h *head) { h.inside, h.size, h.sum = 1, 1, sumOf("d") }),
		"by attributes, much": partOf("a", strings.Repeat("d", 1000), 4<<12).small(),
	} {
		refuses(t, "a Folder with data, "+what, zip(p), plenty, 1, api.ErrZipForm)
	}
	tells(t, "a slash of the field", zip(old("a").titled(1, sumOf("a"), "b/").from(0, 0)), 0, 1, folder("b"))
	tells(t, "a slash that the field has not", zip(old("a/").titled(1, sumOf("a/"), "b").from(0, 0)), 0, 1, file("b", ""))
	tells(t, "a slash of a field that doesn't count", zip(old("a").titled(1, 0, "b/").from(0, 0)), 0, 1, file("a", ""))
	tells(t, "a slash in the letters of old", zip(old("\x82/").from(0, 0)), 0, 1, folder("é"))
	tells(t, "a point behind the slash", zip(partFile("a/.", "").from(0, 0)), 0, 1, file("a", ""))
	tells(t, "two slashes", zip(partFile("a//", "").from(0, 0)), 0, 1, folder("a"))
	tells(t, "DOS's attribute of a folder alone", zip(partFile("a", "").from(0, 16)), 0, 1, file("a", ""))
	for _, target := range []string{"t", "../../up", "/root", strings.Repeat("t", 200)} {
		tells(t, fmt.Sprintf("Target %.20q", target), zip(partLink("a", target)), 200, 1, link("a", target))
	}
	for _, target := range []string{"", "\x00", "\xff", strings.Repeat("t", 201)} {
		refuses(t, fmt.Sprintf("Target %.20q", target), zip(partLink("a", target)), 201, 1, api.ErrTreeForm)
	}
}

func TestReadOfModes(t *testing.T) { // P18.2
	for mode := range 1 << 12 {
		if mode%37 != 0 && mode&(mode-1) != 0 && mode&(mode+1) != 0 {
			continue
		}
		what := fmt.Sprintf("mode %o", mode)
		tells(t, what, zip(partFile("a", "").from(3, 8<<28|mode<<16)), 0, 1, withMode(file("a", ""), mode))
		tells(t, what+" of a Folder", zip(partFile("a", "").from(3, 4<<28|mode<<16|0xffff)), 0, 1, withMode(folder("a"), mode))
		tells(t, what+" of a Link", zip(partFile("a", "to").from(3, 10<<28|mode<<16)), 2, 1, withMode(link("a", "to"), mode))
		tells(t, what+" of no kind", zip(partFile("a", "").from(3, mode<<16)), 0, 1, withMode(file("a", ""), mode))
		tells(t, what+" of no kind, a slash", zip(partFile("a/", "").from(3, mode<<16)), 0, 1, withMode(folder("a"), mode))
		tells(t, what+" of another host", zip(partFile("a", "").from(2, 8<<28|mode<<16)), 0, 1, file("a", ""))
		tells(t, what+" of another host, a slash", zip(partFile("a/", "").from(0, 8<<28|mode<<16)), 0, 1, folder("a"))
	}
}

// The three ways of a time.
func ntTimes(v int) string { return field(10, le(0, 4)+"\x01\x00\x18\x00"+strings.Repeat(le(v, 8), 3)) }

func unixTime(first, seconds int) string { return field(0x5455, le(first, 1)+le(seconds, 4)) }

// since is when the year 1970 began, in hundreds of nanoseconds since 1601 did.
const since = 116444736000000000

func TestReadOfNtTimes(t *testing.T) { // P18.2
	a := partFile("a", "")
	for _, at := range []int{0, 1, -1, 7, 1 << 40, math.MaxInt64/100 - 1, math.MaxInt64 / 100, math.MinInt64 / 100, math.MinInt64/100 + 1} {
		for _, beside := range []string{"", unixTime(1, 5), unixTime(3, 77)} {
			what := fmt.Sprint(at, beside)
			want := withTime(file("a", ""), int64(at)*100)
			tells(t, what, zip(a.extra(ntTimes(since+at)+beside)), 0, 1, want)
			tells(t, what+", behind", zip(a.extra(beside+ntTimes(since+at))), 0, 1, want)
			tells(t, what+", no clock", zip(a.extra(ntTimes(since+at)).both(func(h *head) { h.clock, h.day = 0, 0 })), 0, 1, want)
		}
	}
	for _, v := range []int{0, 1, since + math.MaxInt64/100 + 1, since + math.MinInt64/100 - 1, 1 << 62, math.MaxInt64, math.MinInt64, -1} {
		what := fmt.Sprint("no answer: ", v)
		refuses(t, what, zip(a.extra(ntTimes(v))), 0, 1, api.ErrTimeOver)
		refuses(t, what+", though others are there", zip(a.extra(unixTime(1, 5)+ntTimes(v))), 0, 1, api.ErrTimeOver)
	}
	one := le(0, 4) + "\x01\x00\x18\x00" + le(since+5, 8) + le(since+6, 8) + le(since+7, 8)
	for cut := range len(one) + 1 {
		what := fmt.Sprint("cut at ", cut)
		s := a.extra(field(10, one[:cut]))
		if cut < 16 {
			tells(t, what, zip(s), 0, 1, file("a", ""))
			tells(t, what+", and seconds", zip(s.extra(unixTime(1, 5))), 0, 1, withTime(file("a", ""), 5*sec))
		} else {
			tells(t, what, zip(s), 0, 1, withTime(file("a", ""), 500))
			tells(t, what+", and seconds", zip(s.extra(unixTime(1, 5))), 0, 1, withTime(file("a", ""), 500))
		}
	}
	for at := range 16 {
		for bit := range 8 {
			b := []byte(one)
			b[at] ^= 1 << bit
			what := fmt.Sprint("byte ", at, ", bit ", bit)
			s := zip(a.extra(field(10, string(b)) + unixTime(1, 5)))
			switch {
			case at < 4:
				tells(t, what, s, 0, 1, withTime(file("a", ""), 500))
			case at < 8: // not what is looked for: the next way is asked
				tells(t, what, s, 0, 1, withTime(file("a", ""), 5*sec))
			default:
				likeModel(t, what, s, 0, 1)
			}
		}
	}
	tells(t, "a longer field", zip(a.extra(field(10, one+"more"))), 0, 1, withTime(file("a", ""), 500))
	tells(t, "times that stand behind another part", zip(a.extra(field(10, le(0, 4)+"\x02\x00\x00\x00"+one[4:]))), 0, 1, file("a", ""))
}

func TestReadOfUnixTimes(t *testing.T) { // P18.2
	a := partFile("a", "")
	for _, seconds := range []int{0, 1, -1, 951868800, 1 << 30, math.MaxInt32, math.MinInt32, math.MinInt32 + 1} {
		want := withTime(file("a", ""), int64(seconds)*sec)
		for first := range 256 {
			if first > 9 && first < 250 {
				continue
			}
			what := fmt.Sprint(seconds, ", first ", first)
			s := zip(a.extra(unixTime(first, seconds)))
			if first%2 == 1 {
				tells(t, what, s, 0, 1, want)
			} else {
				tells(t, what, s, 0, 1, file("a", ""))
			}
		}
		whole := le(7, 1) + le(seconds, 4) + le(99, 4) + le(98, 4)
		for cut := range len(whole) + 1 {
			s := zip(a.extra(field(0x5455, whole[:cut])))
			if cut < 5 {
				tells(t, fmt.Sprint(seconds, ", cut at ", cut), s, 0, 1, file("a", ""))
			} else {
				tells(t, fmt.Sprint(seconds, ", cut at ", cut), s, 0, 1, want)
			}
		}
	}
	tells(t, "of another id", zip(a.extra(field(0x5554, "\x01"+le(5, 4))+field(0x5855, le(5, 4)+le(5, 4)))), 0, 1, file("a", ""))
	tells(t, "of the local header", zip(a.with(func(p *part) { p.local.extra = unixTime(1, 5) })), 0, 1, file("a", ""))
}

func TestReadOfDosTimes(t *testing.T) { // P18.2
	dos := func(day, clock int) string {
		return zip(partFile("a", "").both(func(h *head) { h.day, h.clock = day, clock }))
	}
	tells(t, "the first day", dos(33, 0), 0, 1, withTime(file("a", ""), 315532800*sec))
	tells(t, "the example's", dos(10337, 1), 0, 1, withTime(file("a", ""), 951868802*sec))
	none := 0
	for day := 0; day < 65536; day += 97 {
		clock := day * 31 % 65536
		at, is := times.FromDos(uint16(day), uint16(clock))
		if !is {
			none++
			at = 0
		}
		tells(t, fmt.Sprint(day, clock), dos(day, clock), 0, 1, withTime(file("a", ""), at))
	}
	if none < 50 || none > 600 {
		t.Error(none)
	}
	for _, day := range []int{0, 1, 32, 65535, 15 << 5, 20<<9 | 2<<5 | 31} {
		tells(t, fmt.Sprint("no day: ", day), dos(day, 0), 0, 1, withTime(file("a", ""), 0))
	}
	for _, clock := range []int{65535, 24 << 11, 60 << 5, 30} {
		tells(t, fmt.Sprint("no clock: ", clock), dos(someDay, clock), 0, 1, withTime(file("a", ""), 0))
	}
	tells(t, "of the record alone", zip(partFile("a", "").with(func(p *part) { p.local.day, p.local.clock = 33, 0 })), 0, 1, file("a", ""))
}

func TestReadSortsAndChecks(t *testing.T) { // P18.1
	a, b, c := partFolder("a/"), partFile("a/b", "d"), partLink("c", "to")
	want := []api.Entry{folder("a"), file("a/b", "d"), link("c", "to")}
	for _, l := range [][]part{{a, b, c}, {a, c, b}, {b, a, c}, {b, c, a}, {c, a, b}, {c, b, a}} {
		tells(t, "any order", zip(l...), 3, 3, want...)
	}
	tells(t, "no Folder of it", zip(partFile("x/y/z", "")), 0, 1, file("x/y/z", ""))
	tells(t, "byte by byte", zip(partFile("é", ""), partFile("z", ""), partFile("Z", ""), partFile("a/b", ""), partFile("a.", "")), 0, 5, file("Z", ""), file("a.", ""), file("a/b", ""), file("z", ""), file("é", ""))
	for what, l := range map[string][]part{
		"two Files":                {partFile("a", ""), partFile("a", "")},
		"a File and a Folder":      {partFile("a", ""), partFolder("a/")},
		"two Folders":              {partFolder("a"), partFolder("a/")},
		"the same once it is made": {partFile("a/b", ""), partFile("a//./b", "d")},
		"by letters and by field":  {partFile("b", ""), old("a").titled(1, sumOf("a"), "b")},
		"three":                    {partFile("a", ""), partFile("b", ""), partLink("a", "to")},
	} {
		refuses(t, what, zip(l...), 9, 9, api.ErrTreeTwice)
	}
	for what, l := range map[string][]part{
		"below a File":           {partFile("a", ""), partFile("a/b", "")},
		"below a Link":           {partLink("a", "to"), partFolder("a/b")},
		"below it, ahead":        {partFile("a/b/c", ""), partFile("a", "")},
		"a Link without Target":  {partFile("a", ""), partLink("b", "")},
		"below a File, and more": {partFile("a/b", ""), partFile("c", ""), partFile("a", ""), partFile("c", "")},
	} {
		likeModel(t, what, zip(l...), 9, 9)
		if what != "below a File, and more" {
			refuses(t, what, zip(l...), 9, 9, api.ErrTreeForm)
		}
	}
	great := partFile("a", strings.Repeat("x", api.MaxData)).small()
	tells(t, "as much as an entry may have", zip(great), plenty, 1, file("a", strings.Repeat("x", api.MaxData)))
	refuses(t, "more than an entry may have", zip(partFile("a", strings.Repeat("x", api.MaxData+1)).small()), plenty, 1, api.ErrTreeOver)
	refuses(t, "a Link's, too", zip(partLink("a", strings.Repeat("x", api.MaxData+1)).small()), plenty, 1, api.ErrTreeForm)
}
