package zipfmt_test

import (
	"fmt"
	"math"
	"strings"
	"testing"

	"wainload/api"
	"wainload/zipfmt"
)

// The end of an archive, what stands ahead of it, and how many entries there are.

// none is the end alone.
const none = "PK\x05\x06" + "\x00\x00\x00\x00\x00\x00\x00\x00\x00" + "\x00\x00\x00\x00\x00\x00\x00\x00\x00"

func TestReadOfTheExamples(t *testing.T) { // P18.1, P18.3
	b, is := zipfmt.Write(nil, 0, "", "")
	if string(b) != none || !is {
		t.Errorf("%x %v", b, is)
	}
	refuses(t, "a byte behind it", string(b)+"\x00", plenty, plenty, api.ErrZipForm)
}

func TestReadOfFewBytes(t *testing.T) { // P18.1
	for _, b := range [][]byte{nil, {}} {
		if l, err := zipfmt.Read(b, "", plenty, plenty); err != api.ErrZipForm || len(l) != 0 {
			t.Error(l, err)
		}
	}
	for n := range 22 {
		refuses(t, fmt.Sprint(n, " bytes of an end"), none[:n], plenty, plenty, api.ErrZipForm)
		refuses(t, fmt.Sprint(n, " bytes of its end"), none[n+1:], plenty, plenty, api.ErrZipForm)
		refuses(t, fmt.Sprint(n, " bytes 0"), strings.Repeat("\x00", n), plenty, plenty, api.ErrZipForm)
	}
	refuses(t, "22 bytes 0", strings.Repeat("\x00", 22), plenty, plenty, api.ErrZipForm)
	refuses(t, "a local header alone", partFile("a", "").front(), plenty, plenty, api.ErrZipForm)
}

func TestReadOfNoEntry(t *testing.T) { // P18.1
	for _, limit := range []int{0, 1, math.MaxInt} {
		tells(t, "the end alone", none, limit, limit)
		tells(t, "bytes of data are none", none, -limit, limit)
	}
	for at := range 22 {
		for bit := range 8 {
			b := []byte(none)
			b[at] ^= 1 << bit
			refuses(t, fmt.Sprint("byte ", at, ", bit ", bit), string(b), plenty, plenty, api.ErrZipForm)
		}
	}
	refuses(t, "entries below 0", none, 0, -1, api.ErrTreeOver)
}

func TestReadOfComments(t *testing.T) { // P18.1
	for _, n := range []int{1, 2, 21, 22, 23, 255, 256, 1000, 65534, 65535} {
		what := fmt.Sprint("a comment of ", n)
		s := strings.Repeat("c", n)
		b := but(func(e *ending) { e.comment = s }, partFile("a", "d"))
		tells(t, what, b, 1, 1, file("a", "d"))
		refuses(t, what+", a byte behind", b+"c", 1, 1, api.ErrZipForm)
		refuses(t, what+", a byte too few", b[:len(b)-1], 1, 1, api.ErrZipForm)
		for _, more := range []int{1, -1, 256, -256} {
			refuses(t, fmt.Sprint(what, " told as ", more, " more"), but(func(e *ending) { e.comment, e.moreComment = s, more }, partFile("a", "d")), 1, 1, api.ErrZipForm)
		}
	}
	refuses(t, "a comment that is too long", but(func(e *ending) { e.comment = strings.Repeat("c", 65536) }, partFile("a", "d")), 1, 1, api.ErrZipForm)
}

// An end stands at the last place where one can stand, though the one ahead of it is right.
func TestReadOfAnEndWithinAComment(t *testing.T) { // P18.1
	a := partFile("a", "d")
	within := func(comment string) string { return but(func(e *ending) { e.comment = comment }, a) }
	refuses(t, "an end that is the comment", within(none), 1, 1, api.ErrZipForm)
	refuses(t, "an end at the comment's end", within("more"+none), 1, 1, api.ErrZipForm)
	refuses(t, "an end with a comment", within("more"+none[:20]+"\x01\x00c"), 1, 1, api.ErrZipForm)
	tells(t, "an end that isn't all that is left", within(none+"c"), 1, 1, file("a", "d"))
	tells(t, "an end that isn't all there", within(none[:21]), 1, 1, file("a", "d"))
	tells(t, "an end whose comment isn't there", within(none[:20]+"\x01\x00"), 1, 1, file("a", "d"))
	tells(t, "a mark", within("PK\x05\x06"), 1, 1, file("a", "d"))
	tells(t, "an end ahead of another comment", within(none[:20]+"\x02\x00c"), 1, 1, file("a", "d"))
	tells(t, "an end with a wrong letter", within("PK\x05\x07"+none[4:]), 1, 1, file("a", "d"))

	// What the last end tells counts: here it is the archive's.
	e := endingOf(a)
	e.comment = "c"
	tells(t, "two ends", e.front+e.records+e.bytes()[len(e.front+e.records):], 1, 1, file("a", "d"))
	first := endingOf(a)
	first.ahead, first.size = first.bytes()[first.begins+first.size:], first.size+22
	refuses(t, "an end ahead of the end, counted to the directory", first.bytes(), 1, 1, api.ErrZipForm)
	first.size -= 22
	refuses(t, "an end ahead of the end", first.bytes(), 1, 1, api.ErrZipForm)
	tells(t, "a comment that looks like much", within(zip(partFile("b", ""))+"c"), 1, 1, file("a", "d"))
	refuses(t, "an archive in a comment", within(zip(partFile("b", ""))), 1, 1, api.ErrZipForm)
	tells(t, "an archive in an archive", zip(partFile("b", zip(a))), plenty, 1, file("b", zip(a)))
}

func TestReadOfEndsAmiss(t *testing.T) { // P18.1
	for what, do := range map[string]func(e *ending){
		"a disk":                       func(e *ending) { e.disk = 1 },
		"a high disk":                  func(e *ending) { e.disk = 256 },
		"the directory's disk":         func(e *ending) { e.first = 1 },
		"the directory's high disk":    func(e *ending) { e.first = 65535 },
		"both disks":                   func(e *ending) { e.disk, e.first = 1, 1 },
		"more in all":                  func(e *ending) { e.all++ },
		"fewer in all":                 func(e *ending) { e.all-- },
		"more here":                    func(e *ending) { e.many++ },
		"none here":                    func(e *ending) { e.many = 0 },
		"many more in all":             func(e *ending) { e.all += 256 },
		"more entries than there are":  func(e *ending) { e.many, e.all = 3, 3 },
		"fewer entries than there are": func(e *ending) { e.many, e.all = 1, 1 },
		"no entry":                     func(e *ending) { e.many, e.all = 0, 0 },
		"begins later":                 func(e *ending) { e.begins++ },
		"begins earlier":               func(e *ending) { e.begins-- },
		"a directory too long":         func(e *ending) { e.size++ },
		"a directory too short":        func(e *ending) { e.size-- },
		"no directory":                 func(e *ending) { e.size = 0 },
		"begins later and is shorter":  func(e *ending) { e.begins++; e.size-- },
		"begins ahead and is longer":   func(e *ending) { e.begins--; e.size++ },
		"all is directory":             func(e *ending) { e.begins, e.size = 0, e.begins+e.size },
		"a byte ahead of the end":      func(e *ending) { e.ahead = "x" },
		"a byte ahead of it, counted":  func(e *ending) { e.ahead, e.size = "x", e.size+1 },
		"an entry more, not told":      func(e *ending) { e.ahead, e.size = e.records, e.size*2 },
		"a byte behind":                func(e *ending) { e.behind = "x" },
		"begins far beyond":            func(e *ending) { e.begins = full - 1 },
		"a directory that is far more": func(e *ending) { e.size = full - 1 },
		"a wrong mark":                 func(e *ending) { e.mark = "PK\x06\x05" },
	} {
		refuses(t, what, but(do, partFile("a", "d"), partFile("b", "e")), plenty, plenty, api.ErrZipForm)
	}
	many := []part{partFile("a", ""), partFile("b", "")}
	refuses(t, "the numbers are not the same, though entries are too many", but(func(e *ending) { e.all = 1 }, many...), 0, 1, api.ErrZipForm)
	refuses(t, "a directory elsewhere, though entries are too many", but(func(e *ending) { e.begins++ }, many...), 0, 1, api.ErrZipForm)
	refuses(t, "too many entries, though none is right", but(func(e *ending) { e.records = strings.Repeat("x", len(e.records)) }, many...), 0, 1, api.ErrTreeOver)
	refuses(t, "more than may be told, though they are not there", but(func(e *ending) { e.many, e.all = 3, 3 }, many...), 0, 2, api.ErrTreeOver)
}

// Bytes that nothing leads to may stand between the entries and the directory, and ahead of all.
func TestReadOfBytesThatNothingLeadsTo(t *testing.T) { // P18.1, P18.2
	a, b := partFile("a", "d"), partLink("b", "to")
	b.ahead = "between"
	tells(t, "between entries", zip(a, b), 3, 2, file("a", "d"), link("b", "to"))
	a.ahead = "#!/bin/sh\n"
	tells(t, "ahead", zip(a, b), 3, 2, file("a", "d"), link("b", "to"))
	tells(t, "ahead of the directory", but(func(e *ending) { e.front, e.begins = e.front+"gap", e.begins+3 }, a, b), 3, 2, file("a", "d"), link("b", "to"))
	tells(t, "no entry", but(func(e *ending) { e.front, e.begins = "gap", 3 }), 0, 0)
	tells(t, "an entry that the directory has not", but(func(e *ending) { e.front, e.begins = b.front(), len(b.front()) }), 0, 0)
	refuses(t, "places that don't count what stands ahead", "ahead"+zip(partFile("a", "d")), 1, 1, api.ErrZipForm)
}

func TestReadOfEntriesInAnyPlace(t *testing.T) { // P18.2
	a, b := partFile("a", "d"), partFile("b", "ef")
	front := a.front()
	for _, l := range [][]part{{a.at(0), b.at(len(front))}, {b.at(len(front)), a.at(0)}} {
		records := l[0].recordAt(0) + l[1].recordAt(0)
		s := but(func(e *ending) { e.front, e.records = front+b.front(), records }, l...)
		tells(t, "either way", s, 3, 2, file("a", "d"), file("b", "ef"))
	}
	x := partFile("a", "d").at(0)
	y := but(func(e *ending) {
		e.front, e.many, e.all, e.begins = x.front(), 2, 2, len(x.front())
	}, x, x)
	refuses(t, "two records of one local header", y, 2, 2, api.ErrTreeTwice)
	refuses(t, "two records of one local header, too many bytes", y, 1, 2, api.ErrTreeOver)
}

func TestReadOfEntriesAndTheirLimit(t *testing.T) { // P18.1
	var l []part
	var want []api.Entry
	for n := range 5 {
		b := zip(l...)
		tells(t, "enough", b, plenty, n, want...)
		tells(t, "much more", b, plenty, math.MaxInt, want...)
		refuses(t, "one too few", b, plenty, n-1, api.ErrTreeOver)
		refuses(t, "below 0", b, plenty, math.MinInt, api.ErrTreeOver)
		l = append(l, partFile(string(rune('a'+n)), "d"))
		want = append(want, file(string(rune('a'+n)), "d"))
	}
	for n := range 1003 { // of more than a tree may have
		l = append(l, partFile(fmt.Sprintf("n%04d", n), ""))
	}
	refuses(t, "more than a tree has", zip(l[:1001]...), plenty, plenty, api.ErrTreeOver)
	refuses(t, "more than a tree has, below a File", zip(append(l[:1001:1001], partFile("a/b", ""))...), plenty, plenty, api.ErrTreeOver)
	if l, err := zipfmt.Read([]byte(zip(l[:1000]...)), "", 5, 1000); err != api.OK || len(l) != 1000 {
		t.Error(err, len(l))
	}
}

func TestReadOfRecordsThatAreNotWithinTheDirectory(t *testing.T) { // P18.1, P18.2
	a, b := partFile("a", "d"), partFile("b", "e")
	b.comment = "comment"
	long := len(b.recordAt(0))
	for cut := 1; cut <= long; cut++ {
		s := but(func(e *ending) { e.records, e.size = e.records[:len(e.records)-cut], e.size-cut }, a, b)
		refuses(t, fmt.Sprint("a record without its last ", cut), s, 9, 9, api.ErrZipForm)
	}
	for more := 1; more < 60; more++ {
		s := but(func(e *ending) { e.ahead, e.size = strings.Repeat("\x00", more), e.size+more }, a, b)
		refuses(t, fmt.Sprint(more, " bytes behind the last record"), s, 9, 9, api.ErrZipForm)
	}
	refuses(t, "a record behind the last one", but(func(e *ending) { e.many, e.all = 1, 1 }, a, b), 9, 9, api.ErrZipForm)
	for _, more := range []int{1, 2, 22, 30, 255, 60000} { // some of it is found in the end
		what := fmt.Sprint(" runs on for ", more)
		refuses(t, "a comment"+what, zip(a, b.with(func(p *part) { p.moreComment = more })), 9, 9, api.ErrZipForm)
		refuses(t, "a name"+what, zip(a, b.with(func(p *part) { p.record.moreName = more })), 9, 9, api.ErrZipForm)
		refuses(t, "an extra"+what, zip(a, b.with(func(p *part) { p.record.moreExtra = more })), 9, 9, api.ErrZipForm)
		refuses(t, "a comment of the first"+what, zip(a.with(func(p *part) { p.moreComment = more }), b), 9, 9, api.ErrZipForm)
	}
	refuses(t, "a comment that is too short", zip(a, b.with(func(p *part) { p.moreComment = -1 })), 9, 9, api.ErrZipForm)
	refuses(t, "a comment in the midst", zip(b.with(func(p *part) { p.moreComment = -1 }), a), 9, 9, api.ErrZipForm)
	e := endingOf(a, b) // the record runs into the end's comment, where it would be whole
	refuses(t, "a record in the end's comment", but(func(e *ending) {
		e.records, e.size, e.comment = e.records[:len(e.records)-7], e.size-7, "comment"
	}, a, b), 9, 9, api.ErrZipForm)
	tells(t, "and the whole one", e.bytes(), 2, 2, file("a", "d"), file("b", "e"))
}

// wants are what makes the wide part count: each of the end's three numbers by itself, and all.
var wants = []struct {
	what string
	do   func(e *ending)
}{
	{"entries", func(e *ending) { e.many, e.all = 65535, 65535 }},
	{"size", func(e *ending) { e.size = full }},
	{"beginning", func(e *ending) { e.begins = full }},
	{"all", func(e *ending) { e.many, e.all, e.size, e.begins = 65535, 65535, full, full }},
}

func TestReadOfWideParts(t *testing.T) { // P18.1
	a, b := partFile("a", "d"), partFile("b", "ef")
	for _, want := range wants {
		for _, l := range [][]part{nil, {a}, {a, b}} {
			s := wideBut(func(e *ending, w *wide) { want.do(e) }, l...)
			tells(t, want.what, s, 3, len(l), []api.Entry{file("a", "d"), file("b", "ef")}[:len(l)]...)
			refuses(t, want.what+", too many", s, 3, len(l)-1, api.ErrTreeOver)
			refuses(t, want.what+", not there", but(want.do, l...), 3, 2, api.ErrZipForm)
			tells(t, want.what+", a comment", wideBut(func(e *ending, w *wide) { want.do(e); e.comment = "comment" }, l...), 3, 2, []api.Entry{file("a", "d"), file("b", "ef")}[:len(l)]...)
			tells(t, want.what+", longer", wideBut(func(e *ending, w *wide) { want.do(e); w.rest = "more that stands there" }, l...), 3, 2, []api.Entry{file("a", "d"), file("b", "ef")}[:len(l)]...)
		}
		// What the end itself says beside the full number does not count.
		s := wideBut(func(e *ending, w *wide) {
			e.many, e.all, e.size, e.begins = 7, 7, 77, 777
			want.do(e)
		}, a, b)
		tells(t, want.what+", others that are not so", s, 3, 2, file("a", "d"), file("b", "ef"))
	}
	refuses(t, "wanted by none", wideBut(func(e *ending, w *wide) {}, a), 3, 2, api.ErrZipForm)
	refuses(t, "wanted by numbers that are one less", wideBut(func(e *ending, w *wide) {
		e.many, e.all, e.size, e.begins = 65534, 65534, full-1, full-1
	}, a), 3, plenty, api.ErrZipForm)
	tells(t, "wanted by none, and no part of it", zip(a), 1, 1, file("a", "d"))
}

func TestReadOfWidePartsAmiss(t *testing.T) { // P18.1
	a := partFile("a", "d")
	for what, do := range map[string]func(e *ending, w *wide){
		"no mark of the place":                     func(e *ending, w *wide) { w.placeMark = "PK\x06\x08" },
		"the mark of the place is another":         func(e *ending, w *wide) { w.placeMark = "PK\x06\x06" },
		"a disk of the place":                      func(e *ending, w *wide) { w.placeDisk = 1 },
		"a high disk of the place":                 func(e *ending, w *wide) { w.placeDisk = 1 << 24 },
		"no disks":                                 func(e *ending, w *wide) { w.disks = 0 },
		"two disks":                                func(e *ending, w *wide) { w.disks = 2 },
		"many disks":                               func(e *ending, w *wide) { w.disks = 257 },
		"a place a byte ahead":                     func(e *ending, w *wide) { w.place-- },
		"a place a byte behind":                    func(e *ending, w *wide) { w.place++ },
		"a place 0":                                func(e *ending, w *wide) { w.place = 0 },
		"the place of its place":                   func(e *ending, w *wide) { w.place += 56 },
		"a place beyond the archive":               func(e *ending, w *wide) { w.place = 1000 },
		"a place far beyond":                       func(e *ending, w *wide) { w.place = 1 << 40 },
		"a place too great":                        func(e *ending, w *wide) { w.place += 1 << 41 },
		"a place below 0":                          func(e *ending, w *wide) { w.place = -1 },
		"a place that is too great by much":        func(e *ending, w *wide) { w.place = math.MinInt },
		"no mark":                                  func(e *ending, w *wide) { w.mark = "PK\x06\x07" },
		"a byte more":                              func(e *ending, w *wide) { w.more = 1 },
		"a byte less":                              func(e *ending, w *wide) { w.more = -1 },
		"a byte less than is there":                func(e *ending, w *wide) { w.rest, w.more = "x", -1 },
		"as many bytes as with all of it":          func(e *ending, w *wide) { w.more = 12 },
		"no bytes more":                            func(e *ending, w *wide) { w.more = -44 },
		"bytes more below 0":                       func(e *ending, w *wide) { w.more = -45 },
		"many bytes more":                          func(e *ending, w *wide) { w.more = 1 << 41 },
		"bytes that stand between":                 func(e *ending, w *wide) { w.placeMark = "xPK\x06\x07" },
		"bytes behind the place":                   func(e *ending, w *wide) { w.restOfPlace = "x" },
		"a disk":                                   func(e *ending, w *wide) { w.disk = 1 },
		"a high disk":                              func(e *ending, w *wide) { w.disk = 1 << 31 },
		"the directory's disk":                     func(e *ending, w *wide) { w.first = 1 },
		"more in all":                              func(e *ending, w *wide) { w.all++ },
		"fewer in all":                             func(e *ending, w *wide) { w.all-- },
		"many more in all":                         func(e *ending, w *wide) { w.all += 1 << 32 },
		"more entries":                             func(e *ending, w *wide) { w.many, w.all = 2, 2 },
		"no entry":                                 func(e *ending, w *wide) { w.many, w.all = 0, 0 },
		"entries too great":                        func(e *ending, w *wide) { w.many, w.all = 1<<40+1, 1<<40+1 },
		"entries far too great":                    func(e *ending, w *wide) { w.many, w.all = math.MinInt+1, math.MinInt+1 },
		"a greater size":                           func(e *ending, w *wide) { w.size++ },
		"a smaller size":                           func(e *ending, w *wide) { w.size-- },
		"a size too great":                         func(e *ending, w *wide) { w.size += 1 << 41 },
		"a size below 0":                           func(e *ending, w *wide) { w.size = -w.size },
		"sizes that join by wrapping round":        func(e *ending, w *wide) { w.size, w.begins = w.size+1<<40, w.begins-1<<40 },
		"a size too great, with a small beginning": func(e *ending, w *wide) { w.size, w.begins = w.begins+w.size+1, -1 },
		"a later beginning":                        func(e *ending, w *wide) { w.begins++ },
		"an earlier beginning":                     func(e *ending, w *wide) { w.begins-- },
		"a beginning too great":                    func(e *ending, w *wide) { w.begins += 1 << 63 >> 1 },
		"the directory ends where the end begins":  func(e *ending, w *wide) { w.size += 76 },
		"the end's disk":                           func(e *ending, w *wide) { e.disk = 1 },
		"the end's other disk":                     func(e *ending, w *wide) { e.first = 1 },
		"the disks that ZIP64 would have":          func(e *ending, w *wide) { e.disk, e.first = 65535, 65535 },
		"the end's entries":                        func(e *ending, w *wide) { e.all = 65534 },
	} {
		for _, want := range wants {
			s := wideBut(func(e *ending, w *wide) { want.do(e); do(e, w) }, a)
			refuses(t, want.what+": "+what, s, plenty, plenty, api.ErrZipForm)
		}
	}
	refuses(t, "entries just not too great", wideBut(func(e *ending, w *wide) { e.size, w.many, w.all = full, 1<<40, 1<<40 }, a), plenty, plenty, api.ErrTreeOver)
}

// What is amiss is told ahead of entries that are too many.
func TestReadOfWidePartsAmissAndTooMany(t *testing.T) { // P18.1
	a := partFile("a", "d")
	refuses(t, "a size", wideBut(func(e *ending, w *wide) { e.size, w.size = full, 0 }, a), 0, 0, api.ErrZipForm)
	refuses(t, "a place", wideBut(func(e *ending, w *wide) { e.size, w.place = full, 0 }, a), 0, 0, api.ErrZipForm)
	refuses(t, "nothing", wideBut(func(e *ending, w *wide) { e.size = full }, a), 0, 0, api.ErrTreeOver)
}

func TestReadOfWidePartsCut(t *testing.T) { // P18.1
	w := wideBut(func(e *ending, w *wide) { e.size = full })
	tells(t, "no entry, wide", w, 0, 0)
	for cut := range len(w) - 22 { // the end is there, and less and less ahead of it
		refuses(t, fmt.Sprint("from ", cut+1), w[cut+1:], 0, 0, api.ErrZipForm)
	}
	for at := range 56 + 20 {
		b := []byte(w)
		b[at]++
		if err := likeModel(t, fmt.Sprint("turned at ", at), string(b), 0, 0); err == api.OK && (at < 12 || at >= 16) {
			t.Error(at)
		}
	}
}
