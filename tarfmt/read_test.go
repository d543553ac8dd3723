package tarfmt_test

import (
	"fmt"
	"math"
	"slices"
	"strings"
	"testing"

	"wainload/api"
	"wainload/tarfmt"
)

func TestReadOfFewBytes(t *testing.T) { // P17.2
	for _, b := range [][]byte{nil, {}} {
		if l, e := tarfmt.Read(b, plenty, plenty); e != api.ErrTarForm || len(l) != 0 {
			t.Error(l, e)
		}
	}
	one := partFile("a", "")
	for n := range 512 {
		what := fmt.Sprint(n, " bytes")
		refuses(t, what+" 0", end[:n], plenty, plenty, api.ErrTarForm)
		refuses(t, what+" of a header", one[:n], plenty, plenty, api.ErrTarForm)
		refuses(t, what+" 0 behind an entry", one+end[:n], plenty, plenty, api.ErrTarForm)
		refuses(t, what+" of a header behind an entry", one+one[:n], plenty, plenty, api.ErrTarForm)
		refuses(t, what+" x", strings.Repeat("x", n), plenty, plenty, api.ErrTarForm)
	}
}

func TestReadOfNoughts(t *testing.T) { // P17.2
	for n := range 1100 {
		what := fmt.Sprint(n, " bytes 0")
		s := strings.Repeat("\x00", n)
		for _, limit := range []int{0, 1, -1, math.MinInt, math.MaxInt} {
			if n < 1024 {
				refuses(t, what, s, limit, limit, api.ErrTarForm)
			} else {
				tells(t, what, s, limit, limit)
			}
		}
		if n < 1024 {
			refuses(t, what+" behind an entry", partFile("a", "")+s, plenty, plenty, api.ErrTarForm)
		} else {
			tells(t, what+" behind an entry", partFile("a", "")+s, plenty, plenty, file("a", ""))
		}
	}
}

func TestReadLooksAtNothingBehindTheEnd(t *testing.T) { // P17.2
	for _, behind := range []string{"x", end, partFile("a", "a"), partFile("b", "b") + end, strings.Repeat("\xff", 600), said("x", "x"), head{sum: "x"}.bytes(), partFile("a", "a")[:700]} {
		what := fmt.Sprintf("%.20q behind the end", behind)
		tells(t, what, end+behind, 0, 0)
		tells(t, what, partFile("a", "a")+end+behind, 1, 1, file("a", "a"))
	}
}

func TestReadOfOneHeaderOfNoughts(t *testing.T) { // P17.2
	for _, ahead := range []string{"", partFile("a", "")} {
		for at := range 512 {
			b := []byte(ahead + end + end)
			b[len(ahead)+512+at] = 1
			refuses(t, fmt.Sprint("not 0 at 512 and ", at), string(b), plenty, plenty, api.ErrTarForm)
		}
		refuses(t, "an entry behind one", ahead+end[:512]+partFile("b", ""), plenty, plenty, api.ErrTarForm)
		refuses(t, "an archive behind one", ahead+end[:512]+partFile("b", "")+end, plenty, plenty, api.ErrTarForm)
	}
	for at := range 512 { // no header of noughts, though all but one are
		b := []byte(end)
		b[at] = 1
		if e := likeModel(t, fmt.Sprint("not 0 at ", at), string(b), plenty, plenty); e == api.OK {
			t.Error(at)
		}
	}
}

// notNumbers are no numbers in a header, whatever place they are written in.
var notNumbers = []string{"8", "9", "x", "-1", "+1", "1x", "18", "1 1", "1\x001", "\x001", "\x00 1", " \x001", "x1", "0x1", "1.", ".", "\t1", "1\n", "\xff\xff\xff\xff", "\x81\x00\x00\x01", "\x7f", "\xff", "é", "\u0661"}

func TestReadOfNumbersThatAreNone(t *testing.T) { // P17.2
	for _, none := range notNumbers {
		for what, h := range map[string]head{"mode": {mode: none}, "size": {size: none}, "time": {time: none}, "sum": {sum: none}} {
			h.name = "a"
			what = fmt.Sprintf("%s %q", what, none)
			refuses(t, what, part(h, "")+end, plenty, plenty, api.ErrTarForm)
			refuses(t, what+", and a record", said("x", rec("size", "0")+rec("mtime", "1"))+part(h, "")+end, plenty, plenty, api.ErrTarForm)
			h.letter = "x"
			refuses(t, what+", of records", part(h, "")+end, plenty, plenty, api.ErrTarForm)
		}
	}
	// Such as are above 2^62 are none, either.
	for _, v := range []string{big(1<<62+1, 12), big(1<<63, 12), "\x80\x01" + strings.Repeat("\x00", 10), "\x80" + strings.Repeat("\xff", 11)} {
		refuses(t, fmt.Sprintf("size %q", v), part(head{name: "a", size: v}, "")+end, plenty, plenty, api.ErrTarForm)
		refuses(t, fmt.Sprintf("size %q, and a record", v), said("x", rec("size", "0"))+part(head{name: "a", size: v}, "")+end, plenty, plenty, api.ErrTarForm)
		refuses(t, fmt.Sprintf("time %q", v), part(head{name: "a", time: v}, "")+end, plenty, plenty, api.ErrTarForm)
		refuses(t, fmt.Sprintf("time %q, and a record", v), said("x", rec("mtime", "0"))+part(head{name: "a", time: v}, "")+end, plenty, plenty, api.ErrTarForm)
		refuses(t, fmt.Sprintf("time %q, and a wrong sum", v), part(head{name: "a", time: v, sum: "0"}, "")+end, plenty, plenty, api.ErrTarForm)
	}
}

// forms are those in which a header of n bytes may have v.
func forms(v, n int) []string {
	digits := fmt.Sprintf("%o", v)
	l := []string{
		digits, digits + " ", " " + digits, digits + " \x00", digits + "\x00 ", fmt.Sprintf("%0*o", n, v), fmt.Sprintf("%*o", n, v), fmt.Sprintf("%-*o", n, v), fmt.Sprintf("%0*o", n-1, v), fmt.Sprintf("%*o", n-1, v),
		fmt.Sprintf("%0*o ", n-1, v), fmt.Sprintf("%*o ", n-1, v), fmt.Sprintf("%0*o\x00 ", n-2, v), fmt.Sprintf("%*o \x00", n-2, v), fmt.Sprintf("%*o  ", n-2, v), big(uint64(v), n),
	}
	if v == 0 {
		l = append(l, "", " ", strings.Repeat(" ", n), " \x00 ")
	}
	l = slices.DeleteFunc(l, func(s string) bool { return len(s) > n })
	for at := range l {
		l[at] += strings.Repeat("\x00", n-len(l[at]))
	}
	return l
}

func TestReadOfNumbersInEachForm(t *testing.T) { // P17.2
	for _, mode := range []int{0, 1, 0644, 0755, 04777, 07777} {
		for _, s := range forms(mode, 8) {
			tells(t, fmt.Sprintf("mode %q", s), part(head{name: "a", mode: s}, "")+end, 0, 1, withMode(file("a", ""), mode))
		}
	}
	for _, size := range []int{0, 1, 7, 8, 511, 512, 513, 5000} {
		for _, s := range forms(size, 12) {
			data := strings.Repeat("d", size)
			h := head{name: "a", size: s}
			tells(t, fmt.Sprintf("size %q", s), part(h, data)+partFolder("b")+end, size, 2, file("a", data), folder("b"))
		}
	}
	for _, seconds := range []int{0, 1, 7, 8, 1 << 31, 1<<32 - 1, 1<<33 - 1} {
		for _, s := range forms(seconds, 12) {
			h := head{name: "a", time: s}
			tells(t, fmt.Sprintf("time %q", s), part(h, "")+end, 0, 1, withTime(file("a", ""), int64(seconds)*sec))
		}
	}
	h := head{name: "a"}.whole(0)
	for _, s := range forms(h.total(), 8) {
		h.sum = s
		tells(t, fmt.Sprintf("sum %q", s), h.bytes()+end, 0, 1, file("a", ""))
	}
}

func TestReadOfAWrongSum(t *testing.T) { // P17.2
	right := head{name: "a", prefix: "é"}.whole(0)
	for _, by := range []int{-1, 1, -2, 2, -8, 8, -256, 256, -512, 512, 1 << 16, 1 << 20, -right.total(), -right.total() + 1, -8 * 32} {
		h := right
		h.sum = fmt.Sprintf("%07o", right.total()+by)
		refuses(t, fmt.Sprint("sum and ", by), h.bytes()+end, plenty, plenty, api.ErrTarSum)
		h.sum = big(uint64(right.total()+by), 8)
		refuses(t, fmt.Sprint("sum and ", by, ", in bytes"), h.bytes()+end, plenty, plenty, api.ErrTarSum)
	}
	for _, sum := range []string{"0", "\x00", " ", "        ", "\x00\x00\x00\x00\x00\x00\x00\x00"} { // 0
		h := right
		h.sum = sum
		refuses(t, fmt.Sprintf("sum %q", sum), h.bytes()+end, plenty, plenty, api.ErrTarSum)
	}
	h := right // as some took it of old, whose bytes could be below 0
	h.sum = fmt.Sprintf("%07o", right.total()-512)
	refuses(t, "of bytes with a sign", h.bytes()+end, plenty, plenty, api.ErrTarSum)
	refuses(t, "behind another", partFile("a", "data")+h.bytes()+end, plenty, plenty, api.ErrTarSum)
}

// No byte of a header, turned, is passed over: the sum is of all of them.
func TestReadOfTurnedBytes(t *testing.T) { // P17.2
	s := part(head{name: "a/b", prefix: "p", link: "to"}, "data") + end
	met := map[api.Errno]int{}
	for at := range 512 {
		for by := 1; by < 256; by++ {
			b := []byte(s)
			b[at] ^= byte(by)
			e := likeModel(t, fmt.Sprint("byte ", at, " turned by ", by), string(b), plenty, plenty)
			met[e]++
			if e == api.OK && (at < 148 || at >= 156) {
				t.Error("not found:", at, by)
			}
		}
	}
	if met[api.ErrTarSum] < 100000 || met[api.ErrTarForm] < 1000 || met[api.OK] > 20 {
		t.Error(met)
	}
	for at := 512; at < len(s)-1024; at++ { // in what stands behind it
		b := []byte(s)
		b[at] ^= 1
		data := "data"
		if at < 516 {
			data = string(b[512:516])
		}
		tells(t, fmt.Sprint("byte ", at, " turned"), string(b), plenty, plenty, file("p/a/b", data))
	}
}

// with is a header that has another byte, at a place that no word of the chapter names.
func with(h head, at int, c byte) string {
	h = h.whole(0)
	h.sum = fmt.Sprintf("%07o", h.total()+int(c))
	b := []byte(h.bytes())
	b[at] = c
	return string(b)
}

// The bytes that no word of the chapter names count for the sum alone.
func TestReadOfBytesThatStandForNothing(t *testing.T) { // P17.2
	p155 := strings.Repeat("p", 155)
	for at := range 512 {
		named := at < 108 || at >= 124 && at < 265 || at >= 345 && at < 500
		if named {
			continue
		}
		what := fmt.Sprint("byte ", at)
		tells(t, what, with(head{name: "a"}, at, 200)+end, 0, 1, file("a", ""))
		tells(t, what+", a long prefix", with(head{name: "a", prefix: p155}, at, 'x')+end, 0, 1, file(p155+"/a", ""))
		tells(t, what+", a Link", with(head{name: "a", letter: "2", link: p155[:100]}, at, 'x')+end, 0, 1, link("a", p155[:100]))
	}
}

func TestReadOfMarks(t *testing.T) { // P17.2
	for _, mark := range []string{ustar, gnu} {
		tells(t, fmt.Sprintf("mark %q", mark), part(head{name: "a", mark: mark}, "d")+end, 1, 1, file("a", "d"))
		for at := range 8 {
			for by := 1; by < 256; by++ {
				b := []byte(mark)
				b[at] ^= byte(by)
				refuses(t, fmt.Sprintf("mark %q", b), part(head{name: "a", mark: string(b)}, "d")+end, plenty, plenty, api.ErrTarForm)
			}
		}
	}
	for _, none := range []string{"\x00", "ustar", "ustar\x00", "ustar\x000", "ustar\x00\x000", "ustar ", "ustar   ", "ustar 00", "ustar00\x00", "ustar00 ", "USTAR\x0000", " ustar\x000", "tar\x00", "00ustar\x00", "ustar\x00 \x00"} {
		for _, letter := range []string{"0", "\x00", "5", "2", "x", "g", "L", "K"} {
			h := head{name: "a", mark: none, letter: letter, link: "to"}
			refuses(t, fmt.Sprintf("mark %q, type %q", none, letter), part(h, "")+end, plenty, plenty, api.ErrTarForm)
		}
	}
}

func TestReadOfSizes(t *testing.T) { // P17.2
	for _, size := range []int{0, 1, 2, 510, 511, 512, 513, 1023, 1024, 1025, 3000} {
		data := strings.Repeat("0123456\n", 1+size/8)[:size]
		what := fmt.Sprint("size ", size)
		tells(t, what, partFile("a", data)+end, size, 1, file("a", data))
		tells(t, what+", and one more", partFile("a", data)+partFile("b", data)+end, 2*size, 2, file("a", data), file("b", data))
		// The bytes are just there, and the end of b counts as a multiple of 512: no header is behind it, but the entry came.
		h := head{name: "a"}.whole(size).bytes()
		refuses(t, what+", just there", h+data, size, 1, api.ErrTarForm)
		refuses(t, what+", just there, an entry too many", h+data, size, 0, api.ErrTreeOver)
		if size == 0 {
			continue
		}
		refuses(t, what+", just there, a byte too many", h+data, size-1, 1, api.ErrTreeOver)
		refuses(t, what+", one byte too few", h+data[1:], size, 0, api.ErrTarForm)
		refuses(t, what+", none", h, size, 0, api.ErrTarForm)
		// Some of the bytes that fill it up are there, and then none.
		refuses(t, what+", and something behind", h+filled(data)[:min(size+3, len(filled(data)))], size, 0, api.ErrTreeOver)
		refuses(t, what+", and something behind", h+filled(data)[:min(size+3, len(filled(data)))], size, 1, api.ErrTarForm)
	}
}

func TestReadOfSizesOneByteTooGreat(t *testing.T) { // P17.2
	for _, there := range []int{0, 1, 511, 512, 513, 1024} {
		data := strings.Repeat("d", there)
		for _, more := range []int{1, 2, 511, 512, 1 << 20, 1 << 31, 1 << 32} {
			size := fmt.Sprintf("%o", there+more)
			for _, letter := range []string{"0", "\x00", "5", "2", "x", "g", "L", "K", "1", "?"} {
				h := head{name: "a", size: size, letter: letter, link: "to"}.whole(0).bytes()
				refuses(t, fmt.Sprintf("%d more than %d, type %q", more, there, letter), h+data, 0, 0, api.ErrTarForm)
			}
		}
	}
	for _, v := range []uint64{1<<40 - 1, 1 << 40, 1<<40 + 1, 1 << 41, 1 << 61, 1 << 62} {
		refuses(t, fmt.Sprint("size ", v), part(head{name: "a", size: big(v, 12)}, "")+end, 0, 0, api.ErrTarForm)
	}
}

// What fills bytes up need not be 0.
func TestReadOfWhatFillsUp(t *testing.T) { // P17.2
	h := head{name: "a"}.whole(5).bytes()
	tells(t, "not 0", h+"data."+strings.Repeat("x", 507)+partFolder("b")+end, 5, 2, file("a", "data."), folder("b"))
}

func TestReadOfARecordOfASize(t *testing.T) { // P17.2
	for _, x := range []struct{ text, data string }{{"0", ""}, {"-0", ""}, {"00", ""}, {"5", "data."}, {"005", "data."}, {"512", strings.Repeat("d", 512)}, {"0000000000000000000000000000000000000513", strings.Repeat("d", 513)}} {
		for _, inHead := range []string{"0", "1", "1000000", "77777777777", big(1<<40, 12), big(1<<62, 12), ""} {
			for _, letter := range []string{"x", "g"} {
				h := head{name: "a", size: inHead}.whole(len(x.data)).bytes()
				s := said(letter, rec("size", x.text)) + h + filled(x.data) + partFolder("b") + end
				tells(t, fmt.Sprintf("%s size=%s, %q in the header", letter, x.text, inHead), s, len(x.data), 2, file("a", x.data), folder("b"))
			}
		}
	}
	for _, text := range []string{"", "-", "-1", "-512", "x", "5x", " 5", "5 ", "+5", "5.0", "1e1", "0x5", "5\x00", "5\n", "6", "1099511627775", "1099511627776", "1099511627777", "4611686018427387904", "4611686018427387905", "-4611686018427387905", "18446744073709551616", "18446744073709551621", "99999999999999999999999999", "\u0665"} {
		for _, letter := range []string{"x", "g"} {
			what := fmt.Sprintf("%s size=%s", letter, text)
			h := head{name: "a"}.whole(5).bytes()
			refuses(t, what, said(letter, rec("size", text))+h+"data.", 0, 0, api.ErrTarForm)
			refuses(t, what+", an old File", said(letter, rec("size", text))+head{name: "a", letter: "\x00"}.whole(5).bytes()+"data.", 0, 0, api.ErrTarForm)
			// Of all others but Files it doesn't count.
			tells(t, what+", a Folder", said(letter, rec("size", text))+partFolder("a")+end, 0, 1, folder("a"))
			tells(t, what+", a Link", said(letter, rec("size", text))+partLink("a", "to")+end, 0, 1, link("a", "to"))
			tells(t, what+", GNU's name, a Folder", said(letter, rec("size", text))+said("L", "long")+partFolder("a")+end, 0, 1, folder("long"))
			tells(t, what+", records, a Folder", said(letter, rec("size", text))+said("x", rec("path", "p"))+said("g", rec("k", "v"))+partFolder("a")+end, 0, 1, folder("p"))
			refuses(t, what+", no type", said(letter, rec("size", text))+part(head{name: "a", letter: "1"}, "")+end, 1, 1, api.ErrTarKind)
		}
	}
	tells(t, "used up by a Folder", said("x", rec("size", "1"))+partFolder("a")+partFile("b", "data.")+end, 5, 2, folder("a"), file("b", "data."))
	refuses(t, "a Folder with a size, and a record", said("x", rec("size", "0"))+part(head{name: "a", letter: "5"}, "d")+end, 5, 2, api.ErrTarForm)
	refuses(t, "a Link with a size, and a record", said("x", rec("size", "0"))+part(head{name: "a", letter: "2", link: "to"}, "d")+end, 5, 2, api.ErrTarForm)
	same := head{name: "b", size: "0"}.whole(0).bytes() + filled("data.")
	tells(t, "of all from here on", said("g", rec("size", "5"))+partFolder("a")+same+part(head{name: "c", size: "0", letter: "\x00"}, "other")+end, 10, 3, folder("a"), file("b", "data."), file("c", "other"))
}

func TestReadOfEachType(t *testing.T) { // P17.2
	for letter := range 256 {
		h := head{name: "a", letter: string([]byte{byte(letter)}), link: "to"}
		what := fmt.Sprintf("type %q", byte(letter))
		with, without := h.whole(5).bytes()+filled("data.")+partFolder("b")+end, h.whole(0).bytes()+partFolder("b")+end
		switch letter {
		case '0', 0:
			tells(t, what, with, 5, 2, file("a", "data."), folder("b"))
			tells(t, what, without, 0, 2, file("a", ""), folder("b"))
		case '5':
			tells(t, what, without, 0, 2, folder("a"), folder("b"))
			refuses(t, what+" with a size", with, plenty, plenty, api.ErrTarForm)
		case '2':
			tells(t, what, without, 0, 2, link("a", "to"), folder("b"))
			refuses(t, what+" with a size", with, plenty, plenty, api.ErrTarForm)
		case 'x', 'g':
			tells(t, what, without, 0, 1, folder("b"))
			refuses(t, what+" with no records", with, plenty, plenty, api.ErrTarForm)
		case 'L':
			tells(t, what, with, 0, 1, folder("data."))
		case 'K':
			tells(t, what, with, 0, 1, folder("b"))
		default:
			refuses(t, what, with, plenty, plenty, api.ErrTarKind)
			refuses(t, what, without, plenty, plenty, api.ErrTarKind)
			refuses(t, what+", no limit left", without, -1, -1, api.ErrTarKind)
			refuses(t, what+", nothing behind", h.whole(0).bytes(), 0, 0, api.ErrTarKind)
			refuses(t, what+", bytes not there", h.whole(5).bytes()+"data", 0, 0, api.ErrTarForm)
			refuses(t, what+", behind records", said("x", rec("path", "p"))+with, plenty, plenty, api.ErrTarKind)
		}
	}
}

func TestReadOfFoldersAndLinksWithASize(t *testing.T) { // P17.2
	for _, letter := range []string{"5", "2"} {
		for _, size := range []int{1, 2, 511, 512, 513, 2000} {
			for _, body := range []string{"\x00", "x"} {
				h := head{name: "a", letter: letter, link: "to"}
				refuses(t, fmt.Sprintf("type %s, size %d", letter, size), part(h, strings.Repeat(body, size))+end, plenty, plenty, api.ErrTarForm)
				h.name = "../a" // its size is told ahead of what follows it
				refuses(t, fmt.Sprintf("type %s, size %d", letter, size), part(h, strings.Repeat(body, size))+end, 0, 0, api.ErrTarForm)
			}
		}
	}
}

func TestReadOfNames(t *testing.T) { // P17.2
	n99, n100, n155 := strings.Repeat("n", 99), strings.Repeat("n", 100), strings.Repeat("p", 155)
	for _, x := range []struct{ prefix, name, path string }{
		{"", "a", "a"}, {"", "a/b", "a/b"}, {"", "a/", "a"}, {"", "./a//b/.", "a/b"}, {"", "é", "é"}, {"", "a b\n", "a b\n"},
		{"", n99, n99}, {"", n100, n100}, {"", n99 + "/", n99}, {"", "n\x00ot this", "n"}, {"", "n\x00\xff/..", "n"},
		{"p", "a", "p/a"}, {"p/q", "a/b", "p/q/a/b"}, {"p/", "/a", "p/a"}, {"./p", "a", "p/a"}, {"p", "", "p"}, {"p", "/", "p"}, {".", "a", "a"},
		{"p", n100, "p/" + n100}, {n99, n100, n99 + "/" + n100}, {n155, "a", n155 + "/a"}, {n155, n99[:44], n155 + "/" + n99[:44]}, {"", "p\x00q", "p"}, {"p\x00q", "a", "p/a"}, {"\x00p", "a", "a"}, {"p\x00..", "a", "p/a"},
	} {
		for _, h := range []head{{}, {letter: "\x00"}, {letter: "5"}, {letter: "2", link: "to"}} {
			h.prefix, h.name = x.prefix, x.name
			e := map[string]api.Entry{"": file(x.path, ""), "\x00": file(x.path, ""), "5": folder(x.path), "2": link(x.path, "to")}[h.letter]
			tells(t, fmt.Sprintf("prefix %q, name %q", x.prefix, x.name), part(h, "")+end, 0, 1, e)
		}
	}
}

func TestReadOfNamesUnderGnusMark(t *testing.T) { // P17.2
	n100 := strings.Repeat("n", 100)
	for _, prefix := range []string{"", "p", "p/q", "/", "..", "\xff", "\x00", "p\x00q", "00000000007\x0000000000007\x00", strings.Repeat("p", 155)} { // other things stand in its place
		for name, path := range map[string]string{"a": "a", "a/b/": "a/b", "a\x00b": "a", n100: n100, n100[:99]: n100[:99]} {
			tells(t, fmt.Sprintf("prefix %q, name %q", prefix, name), part(head{name: name, prefix: prefix, mark: gnu}, "d")+end, 1, 1, file(path, "d"))
		}
		for _, none := range []string{"/", "/a", "../a", ".", "\x00a"} {
			refuses(t, fmt.Sprintf("prefix %q, name %q", prefix, none), part(head{name: none, prefix: prefix, mark: gnu}, "d")+end, 1, 1, api.ErrNameForm)
		}
		refuses(t, fmt.Sprintf("prefix %q, no name", prefix), part(head{prefix: prefix, mark: gnu}, "d")+end, 1, 1, api.ErrNameForm)
	}
}

func TestReadOfPathsThatAreNone(t *testing.T) { // P17.2
	long := strings.Repeat("n", 100)
	for _, x := range []struct{ prefix, name string }{
		{"", ""}, {"", "/"}, {"", "/a"}, {"", ".."}, {"", "../a"}, {"", "a/.."}, {"", "a/../b"}, {"", "."}, {"", "./"}, {"", "././"}, {"", "\x00a"}, {"", "\xff"}, {"", "a\xc3"}, {"", "\xc0\xaf"}, {"", "\xed\xa0\x80"}, {"", long[:99] + "\xc3"},
		{"/", "a"}, {"/p", "a"}, {"..", "a"}, {"p/..", "a"}, {"p", ".."}, {"p", "../a"}, {".", ""}, {".", "."}, {"\xff", "a"}, {"p\xc3", "\xa9"}, {long, long}, {strings.Repeat("p", 155), long[:45]}, {strings.Repeat("p", 155), long}, {"/", ""},
	} {
		for _, h := range []head{{}, {letter: "\x00"}, {letter: "5"}, {letter: "2", link: "to"}} {
			h.prefix, h.name = x.prefix, x.name
			refuses(t, fmt.Sprintf("prefix %q, name %q", x.prefix, x.name), part(h, "")+end, plenty, plenty, api.ErrNameForm)
			refuses(t, fmt.Sprintf("prefix %q, name %q, no limit left", x.prefix, x.name), part(h, "")+end, 0, 0, api.ErrNameForm)
			tells(t, fmt.Sprintf("prefix %q, name %q, and a record", x.prefix, x.name), said("x", rec("path", "p"))+said("L", "l")+part(head{name: x.name, prefix: x.prefix}, "d")+end, 1, 1, file("p", "d"))
			tells(t, fmt.Sprintf("prefix %q, name %q, and GNU's", x.prefix, x.name), said("L", "l")+part(head{name: x.name, prefix: x.prefix}, "d")+end, 1, 1, file("l", "d"))
		}
	}
	for _, path := range []string{"", "/", "/a", "..", "../a", "a/../b", ".", "a\x00", "\x00", "a\x00b", "\xff", strings.Repeat("n", 201), strings.Repeat("n/", 100) + "n"} {
		for _, letter := range []string{"x", "g"} {
			refuses(t, fmt.Sprintf("%s path=%q", letter, path), said(letter, rec("path", path))+partFile("a", "")+end, plenty, plenty, api.ErrNameForm)
		}
		if text, _, _ := strings.Cut(path, "\x00"); text != "a" {
			refuses(t, fmt.Sprintf("GNU's name %q", path), said("L", path)+partFile("a", "")+end, plenty, plenty, api.ErrNameForm)
		} else {
			tells(t, fmt.Sprintf("GNU's name %q", path), said("L", path)+partFile("b", "")+end, 0, 1, file("a", ""))
		}
	}
}

// A Link may lead anywhere: no path leads out of the tree by that.
func TestReadOfTargets(t *testing.T) { // P17.2
	l100, l200 := strings.Repeat("l", 100), strings.Repeat("l", 200)
	for _, to := range []string{"to", "a", "..", "../..", "/", "/etc", "a//b/", ".", "é", "a b\n", l100[:99], l100} {
		tells(t, fmt.Sprintf("to %q", to), partLink("a", to)+end, 0, 1, link("a", to))
		tells(t, fmt.Sprintf("to %q, GNU's mark", to), part(head{name: "a", letter: "2", link: to, mark: gnu}, "")+end, 0, 1, link("a", to))
		tells(t, fmt.Sprintf("to %q, a File", to), part(head{name: "a", link: to}, "d")+end, 1, 1, file("a", "d"))
		tells(t, fmt.Sprintf("to %q, a Folder", to), part(head{name: "a", link: to, letter: "5"}, "")+end, 0, 1, folder("a"))
		tells(t, fmt.Sprintf("record to %q", to), said("x", rec("linkpath", to))+partLink("a", "other")+end, 0, 1, link("a", to))
		tells(t, fmt.Sprintf("GNU's to %q", to), said("K", to)+partLink("a", "other")+end, 0, 1, link("a", to))
	}
	tells(t, "up to a byte 0", partLink("a", "to\x00not this")+end, 0, 1, link("a", "to"))
	tells(t, "GNU's up to a byte 0", said("K", "to\x00not this")+partLink("a", "other")+end, 0, 1, link("a", "to"))
	tells(t, "record of 200 bytes", said("x", rec("linkpath", l200))+partLink("a", "other")+end, 0, 1, link("a", l200))
	tells(t, "GNU's of 200 bytes", said("K", l200)+partLink("a", "other")+end, 0, 1, link("a", l200))
	for _, none := range []string{"", "\x00", "\x00to", "\xff", "a\xc3", "\xed\xa0\x80"} {
		refuses(t, fmt.Sprintf("to %q", none), partLink("a", none)+end, plenty, plenty, api.ErrTreeForm)
		refuses(t, fmt.Sprintf("GNU's to %q", none), said("K", none)+partLink("a", "other")+end, plenty, plenty, api.ErrTreeForm)
		refuses(t, fmt.Sprintf("record to %q", none), said("x", rec("linkpath", none))+partLink("a", "other")+end, plenty, plenty, api.ErrTreeForm)
		tells(t, fmt.Sprintf("a File to %q", none), said("x", rec("linkpath", none))+part(head{name: "a", link: none}, "")+end, 0, 1, file("a", ""))
	}
	for _, long := range []string{l200 + "l", l200 + l200, "a\x00b"} {
		refuses(t, fmt.Sprintf("record to %.9q", long), said("x", rec("linkpath", long))+partLink("a", "other")+end, plenty, plenty, api.ErrTreeForm)
	}
	refuses(t, "GNU's of 201 bytes", said("K", l200+"l")+partLink("a", "other")+end, plenty, plenty, api.ErrTreeForm)
}

func TestReadOfModes(t *testing.T) { // P17.2
	for _, mode := range []int{0, 1, 0644, 4095, 4096, 4097, 0100644, 0170777, 8191, 8192, 1<<21 - 1, 1<<24 - 1, 1 << 30, 1<<56 - 1, 1<<56 - 4096} {
		s := big(uint64(mode), 8)
		if mode < 1<<24 {
			s = fmt.Sprintf("%08o", mode)
		}
		tells(t, fmt.Sprintf("mode %o", mode), part(head{name: "a", mode: s}, "")+end, 0, 1, withMode(file("a", ""), mode%4096))
		tells(t, fmt.Sprintf("mode %o, a Folder", mode), part(head{name: "a", mode: s, letter: "5"}, "")+end, 0, 1, withMode(folder("a"), mode%4096))
		tells(t, fmt.Sprintf("mode %o, a Link", mode), part(head{name: "a", mode: s, letter: "2", link: "to"}, "")+end, 0, 1, withMode(link("a", "to"), mode%4096))
	}
}

func TestReadOfRecordsOfATime(t *testing.T) { // P17.2
	for _, x := range []struct {
		text string
		t    int64
	}{
		{"0", 0}, {"-0", 0}, {"1", sec}, {"-1", -sec}, {"1.5", sec + sec/2}, {"-1.5", -sec - sec/2}, {"0.000000001", 1}, {"-0.000000001", -1}, {"0.0000000009", 0}, {"-0.0000000019", -1}, {"5.10", 5*sec + sec/10}, {"007", 7 * sec},
		{"9000000000", 9000000000 * sec}, {"-9000000000", -9000000000 * sec}, {"9000000000.999999999", 9000000000999999999}, {"-9000000000.999999999", -9000000000999999999}, {"8589934592", 8589934592 * sec}, {"1700000000.123456789", 1700000000123456789},
	} {
		for _, inHead := range []string{"", "0", big(1<<62, 12), "777777777777"} { // also one that is too great
			for _, letter := range []string{"x", "g"} {
				h := head{name: "a", time: inHead}
				tells(t, fmt.Sprintf("%s mtime=%s", letter, x.text), said(letter, rec("mtime", x.text))+part(h, "")+end, 0, 1, withTime(file("a", ""), x.t))
			}
		}
		tells(t, "of a Folder", said("x", rec("mtime", x.text))+partFolder("a")+end, 0, 1, withTime(folder("a"), x.t))
		tells(t, "of a Link", said("x", rec("mtime", x.text))+partLink("a", "to")+end, 0, 1, withTime(link("a", "to"), x.t))
	}
	for _, letter := range []string{"x", "g"} {
		for _, none := range []string{"", "-", ".", "1.", ".5", "-.5", "1.5.", "1,5", "x", "1x", " 1", "1 ", "+1", "1e3", "0x1", "--1", "1.-5", "1\n", "1\x00", "99999999999x", "1.x", "\u0661"} {
			refuses(t, fmt.Sprintf("%s mtime=%q", letter, none), said(letter, rec("mtime", none))+partFile("a", "d")+end, 1, 1, api.ErrTarForm)
			refuses(t, fmt.Sprintf("%s mtime=%q, no limit left", letter, none), said(letter, rec("mtime", none))+partFile("a", "d")+end, 0, 0, api.ErrTarForm)
		}
		for _, over := range []string{"9000000001", "-9000000001", "9000000001.5", "9223372036", "9223372037", "4611686018427387904", "4611686018427387905", "18446744073709551616", "-18446744073709551616", "99999999999999999999999.123"} {
			refuses(t, fmt.Sprintf("%s mtime=%s", letter, over), said(letter, rec("mtime", over))+partFile("a", "d")+end, 1, 1, api.ErrTimeOver)
			refuses(t, fmt.Sprintf("%s mtime=%s, no limit left", letter, over), said(letter, rec("mtime", over))+partFile("a", "d")+end, 0, 0, api.ErrTimeOver)
		}
	}
}

func TestReadOfTimesInAHeader(t *testing.T) { // P17.2
	for _, seconds := range []uint64{0, 1, 1<<33 - 1, 1 << 33, 8999999999, 9000000000, 9000000001, 9223372035, 9223372036} {
		tells(t, fmt.Sprint("time ", seconds), part(head{name: "a", time: big(seconds, 12)}, "")+end, 0, 1, withTime(file("a", ""), int64(seconds)*sec))
		tells(t, fmt.Sprint("time ", seconds, " of a Folder"), part(head{name: "a", time: big(seconds, 12), letter: "5"}, "")+end, 0, 1, withTime(folder("a"), int64(seconds)*sec))
	}
	tells(t, "time in twelve digits", part(head{name: "a", time: fmt.Sprintf("%012o", 9223372036)}, "")+end, 0, 1, withTime(file("a", ""), 9223372036*sec))
	for _, seconds := range []uint64{9223372037, 9223372038, 10000000000, 1 << 36, 1 << 40, 18446744073, 18446744074, 36893488148, 1 << 61, 1<<62 - 1, 1 << 62} {
		for _, letter := range []string{"0", "\x00", "5", "2"} {
			h := head{name: "a", time: big(seconds, 12), letter: letter, link: "to"}
			refuses(t, fmt.Sprint("time ", seconds), part(h, "")+end, plenty, plenty, api.ErrTimeOver)
			refuses(t, fmt.Sprint("time ", seconds, ", no limit left"), part(h, "")+end, 0, 0, api.ErrTimeOver)
		}
	}
	refuses(t, "time in twelve digits", part(head{name: "a", time: fmt.Sprintf("%012o", 9223372037)}, "")+end, 0, 1, api.ErrTimeOver)
	refuses(t, "twelve digits 7", part(head{name: "a", time: "777777777777"}, "")+end, 0, 1, api.ErrTimeOver)
	// Of what is no entry the time is asked for nothing but that it is a number.
	tells(t, "of records", part(head{name: "x", time: big(1<<62, 12), letter: "x"}, rec("k", "v"))+part(head{name: "L", time: big(1<<62, 12), letter: "L"}, "l")+partFile("a", "")+end, 0, 1, file("l", ""))
}

func TestReadOfLimits(t *testing.T) { // P17.2
	s := partFolder("a") + partFile("b", "12345") + partFile("c", "") + partLink("d", "1234567") + partFile("e", "123") + end
	want := []api.Entry{folder("a"), file("b", "12345"), file("c", ""), link("d", "1234567"), file("e", "123")}
	for _, most := range []int{8, 9, 1000, math.MaxInt} {
		for _, entries := range []int{5, 6, 1000, math.MaxInt} {
			tells(t, fmt.Sprint(most, " bytes, ", entries, " entries"), s, most, entries, want...)
		}
		for _, entries := range []int{4, 3, 2, 1, 0, -1, math.MinInt} {
			refuses(t, fmt.Sprint(most, " bytes, ", entries, " entries"), s, most, entries, api.ErrTreeOver)
		}
	}
	for _, most := range []int{7, 6, 5, 4, 1, 0, -1, math.MinInt} {
		for _, entries := range []int{5, 4, 0, -1, math.MaxInt} {
			refuses(t, fmt.Sprint(most, " bytes, ", entries, " entries"), s, most, entries, api.ErrTreeOver)
		}
	}
	for _, none := range []string{partFolder("a"), partFile("a", ""), partLink("a", "to")} { // no bytes are more than fewer than none
		refuses(t, "-1 bytes", none+end, -1, 1, api.ErrTreeOver)
		refuses(t, "fewest bytes", none+end, math.MinInt, 1, api.ErrTreeOver)
		if e := likeModel(t, "0 bytes", none+end, 0, 1); e != api.OK {
			t.Error(e)
		}
	}
	// What is no entry is not counted.
	tells(t, "records", said("x", rec("k", "value"))+said("g", rec("k", "value"))+said("L", "long")+said("K", "link")+end, 0, 0)
	tells(t, "records, no limit", said("x", rec("k", "value"))+end, math.MinInt, math.MinInt)
	tells(t, "records and an entry", said("x", rec("k", "value"))+said("L", "long")+partFile("a", "d")+end, 1, 1, file("long", "d"))
	// The limits are asked as the entry comes: nothing behind it is told.
	refuses(t, "ahead of what is amiss", partFile("a", "d")+strings.Repeat("x", 512), 0, 1, api.ErrTreeOver)
	refuses(t, "ahead of what is amiss", partFile("a", "d")+strings.Repeat("x", 512), 1, 0, api.ErrTreeOver)
	refuses(t, "what is amiss", partFile("a", "d")+strings.Repeat("x", 512), 1, 1, api.ErrTarForm)
	refuses(t, "one path", partFile("a", "d")+partFile("a", "d")+end, 1, 2, api.ErrTreeOver)
	refuses(t, "one path", partFile("a", "d")+partFile("a", "d")+end, 2, 1, api.ErrTreeOver)
	refuses(t, "one path", partFile("a", "d")+partFile("a", "d")+end, 2, 2, api.ErrTreeTwice)
}

func TestReadOfEntriesThatDoNotRise(t *testing.T) { // P17.2
	want := []api.Entry{folder("a"), file("a-", "1"), file("a/b", "2"), folder("a/c"), link("a/c/d", "to"), file("b", "3")}
	parts := []string{partFolder("a/"), partFile("./a-", "1"), partFile("a//b", "2"), partFolder("a/c/"), partLink("a/c/d", "to"), partFile("b", "3")}
	orders := 0
	var each func(left []int, s string)
	each = func(left []int, s string) {
		if len(left) == 0 {
			orders++
			tells(t, fmt.Sprint("order ", orders), s+end, 6, 6, want...)
		}
		for n, x := range left {
			each(slices.Concat(left[:n], left[n+1:]), s+parts[x])
		}
	}
	each([]int{0, 1, 2, 3, 4, 5}, "")
	if orders != 720 {
		t.Error(orders)
	}
}

func TestReadOfWhatIsNoTree(t *testing.T) { // P17.2
	for what, s := range map[string]string{
		"two Files": partFile("a", "1") + partFile("a", "2"), "a File and a Folder": partFile("a", "") + partFolder("a/"), "two Folders": partFolder("a") + partFolder("./a"), "a Link and a File": partLink("a", "to") + partFile("a", ""),
		"not side by side": partFile("b/c", "") + partFile("a", "") + partFile("b//c", ""), "by a record": said("g", rec("path", "p")) + partFile("a", "") + partFile("b", ""), "by a prefix": part(head{name: "b", prefix: "a"}, "") + partFile("a/b", ""),
	} {
		refuses(t, what, s+end, plenty, plenty, api.ErrTreeTwice)
	}
	for what, s := range map[string]string{
		"below a File": partFile("a", "") + partFile("a/b", ""), "below a File, ahead of it": partFolder("a/b") + partFile("a", ""), "below a Link": partLink("a", "to") + partFile("a/b", ""), "far below a File": partFile("a", "") + partFolder("a/b") + partFile("a/b/c", ""), "far below a Link": partFile("a/b/c", "") + partLink("a", "to"), "others between": partFile("a", "") + partFile("a-", "") + partFile("a/b", ""),
	} {
		refuses(t, what, s+end, plenty, plenty, api.ErrTreeForm)
	}
	// What it lies in need not be there.
	tells(t, "below nothing", partFile("a/b/c", "")+end, 0, 1, file("a/b/c", ""))
	// The first one amiss of the sorted is told.
	refuses(t, "twice ahead", partFile("b/c", "")+partFile("b", "")+partFile("a", "")+partFile("a", "")+end, plenty, plenty, api.ErrTreeTwice)
	refuses(t, "below a File ahead", partFile("c", "")+partFile("c", "")+partFile("b/c", "")+partFile("b", "")+end, plenty, plenty, api.ErrTreeForm)
	// At the end alone: what is amiss with a header behind it comes first.
	refuses(t, "and another type", partFile("a", "")+partFile("a", "")+part(head{name: "c", letter: "3"}, "")+end, plenty, plenty, api.ErrTarKind)
	refuses(t, "and no end", partFile("a", "")+partFile("a", ""), plenty, plenty, api.ErrTarForm)
	refuses(t, "and half an end", partFile("a", "")+partFile("a", "")+end[:1023], plenty, plenty, api.ErrTarForm)
	refuses(t, "no target, and a path that leads out", partLink("a", "")+partFile("../a", "")+end, plenty, plenty, api.ErrNameForm)
}

func TestReadOfMuch(t *testing.T) { // P17.2
	most := strings.Repeat("d", api.MaxData)
	tells(t, "the most bytes", partFile("a", most)+end, plenty, plenty, file("a", most))
	refuses(t, "one byte more", partFile("a", most+"d")+end, plenty, plenty, api.ErrTreeOver)
	refuses(t, "one byte more, and an entry below", partFile("a/b", "")+partFile("a", most+"d")+end, plenty, plenty, api.ErrTreeOver)
	refuses(t, "one byte more, and what is amiss", partFile("a", most+"d")+part(head{name: "c", letter: "3"}, "")+end, plenty, plenty, api.ErrTarKind)
	var s strings.Builder
	var want []api.Entry
	for n := range 1000 {
		s.WriteString(partFile(fmt.Sprintf("%04d", n), ""))
		want = append(want, file(fmt.Sprintf("%04d", n), ""))
	}
	tells(t, "1000 entries", s.String()+end, 0, 1000, want...)
	refuses(t, "1000 entries, 999 allowed", s.String()+end, 0, 999, api.ErrTreeOver)
	refuses(t, "1001 entries", s.String()+partFile("0000", "")+end, plenty, plenty, api.ErrTreeOver)
	refuses(t, "1001 entries, 1000 allowed", s.String()+partFile("0000", "")+end, plenty, 1000, api.ErrTreeOver)
	refuses(t, "1001 entries, and what is amiss", s.String()+partFile("0000", "")+head{name: "x", sum: "0"}.whole(0).bytes(), plenty, plenty, api.ErrTarSum)
}
