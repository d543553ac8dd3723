package tarfmt_test

import (
	"fmt"
	"math/rand"
	"strings"
	"testing"

	"wainload/api"
)

// amiss are things that may be amiss with a header and its bytes, in the order in which they are told. (The limit is 4 bytes.)
var amiss = []struct {
	what string
	do   func(h *head, body *string)
	err  api.Errno
}{
	{"mode no number", func(h *head, body *string) { h.mode = "8" }, api.ErrTarForm},
	{"time no number", func(h *head, body *string) { h.time = "x" }, api.ErrTarForm},
	{"wrong sum", func(h *head, body *string) { h.sum = "0000001" }, api.ErrTarSum},
	{"no mark", func(h *head, body *string) { h.mark = "ustar" }, api.ErrTarForm},
	{"bytes not there", func(h *head, body *string) { h.size = "77777777777" }, api.ErrTarForm},
	{"no type", func(h *head, body *string) { h.letter = "7" }, api.ErrTarKind},
	{"a Folder with a size", func(h *head, body *string) { h.letter, *body = "5", "12345" }, api.ErrTarForm},
	{"no path", func(h *head, body *string) { h.name = "../a" }, api.ErrNameForm},
	{"time too great", func(h *head, body *string) { h.time = "777777777777" }, api.ErrTimeOver},
	{"bytes too many", func(h *head, body *string) { *body = "12345" }, api.ErrTreeOver},
	{"below a File", func(h *head, body *string) { h.name = "b/c" }, api.ErrTreeForm},
}

// excludes tells of things that can't both be amiss with one header.
func excludes(i, j int) bool {
	both := amiss[i].what + ", " + amiss[j].what
	for _, pair := range []string{"time no number, time too great", "no type, a Folder with a size", "a Folder with a size, bytes too many", "no path, below a File"} {
		if both == pair {
			return true
		}
	}
	return false
}

func partAmiss(name string, of ...int) string {
	h, body := head{name: name}, ""
	for _, n := range of {
		amiss[n].do(&h, &body)
	}
	return part(h, body)
}

func TestReadOfTwoThingsAmissWithOneHeader(t *testing.T) { // P17.2
	for i, x := range amiss {
		refuses(t, x.what, partFile("b", "")+partAmiss("a", i)+end, 4, 9, x.err)
		for j := i + 1; j < len(amiss); j++ {
			if excludes(i, j) {
				continue
			}
			what := x.what + ", " + amiss[j].what
			refuses(t, what, partFile("b", "")+partAmiss("a", i, j)+end, 4, 9, x.err)
			for k := j + 1; k < len(amiss); k++ {
				if !excludes(i, k) && !excludes(j, k) {
					refuses(t, what+", "+amiss[k].what, partFile("b", "")+partAmiss("a", i, j, k)+end, 4, 9, x.err)
				}
			}
		}
	}
}

func TestReadOfTwoHeadersAmiss(t *testing.T) { // P17.2
	last := len(amiss) - 1 // it is told at the end
	for i, x := range amiss {
		for j, y := range amiss {
			want := x.err
			if i == last {
				want = y.err
			}
			refuses(t, "first "+x.what+", then "+y.what, partFile("b", "")+partAmiss("a", i)+partAmiss("aa", j)+end, 4, 9, want)
			refuses(t, "first "+x.what+", then an entry, then "+y.what, partFile("b", "")+partAmiss("a", i)+partFile("c", "")+partAmiss("aa", j)+end, 4, 9, want)
		}
		want := x.err
		if i == last {
			want = api.ErrTarForm
		}
		refuses(t, "first "+x.what+", then no end", partFile("b", "")+partAmiss("a", i), 4, 9, want)
		refuses(t, "first "+x.what+", then half an end", partFile("b", "")+partAmiss("a", i)+end[:512]+partFile("c", ""), 4, 9, want)
		tells(t, "behind the end "+x.what, partFile("b", "")+end+partAmiss("a", i), 4, 9, file("b", ""))
	}
}

// Of a Folder's or a Link's header too the order is the document's.
func TestReadOfTwoThingsAmissWithOthers(t *testing.T) { // P17.2
	for _, letter := range []string{"5", "2"} {
		refuses(t, "size, path", part(head{name: "..", letter: letter, link: "to"}, "d")+end, 0, 0, api.ErrTarForm)
		refuses(t, "path, time", part(head{name: "..", letter: letter, link: "to", time: "777777777777"}, "")+end, 0, 0, api.ErrNameForm)
		refuses(t, "path, no target", part(head{name: "..", letter: letter}, "")+end, 0, 0, api.ErrNameForm)
		refuses(t, "time, entries", part(head{name: "a", letter: letter, time: "777777777777"}, "")+end, 0, 0, api.ErrTimeOver)
		refuses(t, "time no seconds, entries", said("x", rec("mtime", "x"))+part(head{name: "a", letter: letter, time: "777777777777"}, "")+end, 0, 0, api.ErrTarForm)
		refuses(t, "path, time no seconds", said("x", rec("mtime", "x")+rec("path", ".."))+part(head{name: "a", letter: letter}, "")+end, 0, 0, api.ErrNameForm)
		refuses(t, "entries, no target", part(head{name: "a", letter: letter}, "")+end, 0, 0, api.ErrTreeOver)
	}
	refuses(t, "no target, twice", partLink("a", "")+partLink("a", "")+end, 0, 2, api.ErrTreeForm)
	refuses(t, "no target, twice ahead of it", partLink("b", "")+partFile("a", "")+partFile("a", "")+end, 0, 3, api.ErrTreeTwice)
	refuses(t, "record of a size, type", said("x", rec("size", "x"))+part(head{name: "a", letter: "1"}, "")+end, 0, 0, api.ErrTarKind)
	refuses(t, "record of a size, path", said("x", rec("size", "x"))+partFile("..", "")+end, 0, 0, api.ErrTarForm)
	refuses(t, "no records, mark", part(head{name: "a", letter: "x", mark: "x"}, "x")+end, 0, 0, api.ErrTarForm)
	refuses(t, "no records, sum", part(head{name: "a", letter: "x", sum: "1"}, "x")+end, 0, 0, api.ErrTarSum)
}

// everything is an archive with each thing that a right one may have.
func everything() (string, []api.Entry) {
	s := partFolder("a/") + said("g", rec("mtime", "5")) + said("x", rec("path", "a/b")+rec("size", "600")) + part(head{name: "n", size: "0"}, strings.Repeat("d", 600)) +
		said("L", "long") + said("K", "to\x00") + part(head{name: "n", letter: "2", mark: gnu}, "") + part(head{name: "f", prefix: "p", letter: "\x00", mode: big(04755, 8), time: big(9, 12)}, strings.Repeat("e", 512)) + partFile("z", "z")
	return s, []api.Entry{
		folder("a"), withTime(file("a/b", strings.Repeat("d", 600)), 5*sec), withTime(link("long", "to"), 5*sec),
		withMode(withTime(file("p/f", strings.Repeat("e", 512)), 5*sec), 04755), withTime(file("z", "z"), 5*sec),
	}
}

func TestReadCutAtEveryPlace(t *testing.T) { // P17.2
	s, want := everything()
	whole := s + end + "more"
	for cut := range len(whole) + 1 {
		what := fmt.Sprint("cut at ", cut)
		if cut < len(s)+1024 {
			refuses(t, what, whole[:cut], 1113, 5, api.ErrTarForm)
		} else {
			tells(t, what, whole[:cut], 1113, 5, want...)
		}
		likeModel(t, what, whole[:cut], 1112, 5)
		likeModel(t, what, whole[:cut], 1113, 4)
		likeModel(t, what, whole[:cut], 0, 0)
	}
	for cut := 0; cut < len(whole); cut += 4 { // its front is not there
		likeModel(t, fmt.Sprint("from ", cut), whole[cut:], 1113, 5)
	}
}

// chance makes archives by chance: most of them are right nearly all the way.
type chance struct{ *rand.Rand }

func (c chance) of(l ...string) string { return l[c.Intn(len(l))] }

// rarely tells one of the second list now and then.
func (c chance) rarely(l, others []string) string {
	if c.Intn(60) == 0 {
		return c.of(others...)
	}
	return c.of(l...)
}

func (c chance) path() string {
	return c.rarely([]string{"a", "b", "c", "d/", "e/f", "g//h", "./i", "a-", "a/b", "j/k/l", "b/c", "é", strings.Repeat("n", 100)}, []string{"", "/a", "..", "a/..", "a\x00b", "\xff", strings.Repeat("n", 99) + "é"[:1]})
}

func (c chance) records() string {
	var s strings.Builder
	for range c.Intn(4) {
		switch c.Intn(6) {
		case 0:
			s.WriteString(rec("path", c.rarely([]string{c.path(), strings.Repeat("p", 150), "p"}, []string{strings.Repeat("p", 201)})))
		case 1:
			s.WriteString(rec("linkpath", c.rarely([]string{"l", "../..", strings.Repeat("l", 200)}, []string{"", strings.Repeat("l", 201), "\xff"})))
		case 2:
			s.WriteString(rec("mtime", c.rarely([]string{"0", "1.5", "-1.000000001", "9000000000", "1234567890.123456789"}, []string{"", "x", "1.", "9000000001"})))
		case 3:
			s.WriteString(rec("size", c.rarely([]string{"0", "3", "600"}, []string{"", "x", "-1", "999999", "1099511627777"})))
		default:
			s.WriteString(rec(c.of("k", "comment", "Path", "sizes"), c.of("", "v", "a=b\n", "\n9 path=a\n")))
		}
	}
	s.WriteString(c.rarely([]string{""}, []string{"x", "9 path=a", "5 =a\n"}))
	return s.String()
}

func (c chance) head(letter string) head {
	h := head{name: c.path(), letter: letter, link: c.of("to", "to", "", "..", strings.Repeat("t", 100))}
	h.prefix = c.rarely([]string{"", "", "", "p", "q/r"}, []string{"/p", "..", strings.Repeat("p", 155)})
	h.mark = c.rarely([]string{ustar, ustar, gnu}, []string{"ustar", "ustar\x0001", "ustar   "})
	h.mode = c.rarely([]string{"", "755 ", "0107777", big(0644, 8)}, []string{"8", "x"})
	h.time = c.rarely([]string{"", "0", " 17 ", big(1<<33, 12)}, []string{"8", "777777777777", big(1<<62+1, 12)})
	h.size = c.rarely([]string{""}, []string{"0", "1", "77777777777", "x", big(600, 12), big(1<<63, 12)})
	h.sum = c.rarely([]string{""}, []string{"0", "x", "0001234"})
	return h
}

func (c chance) part() string {
	switch letter := c.rarely([]string{"0", "0", "0", "\x00", "5", "2", "x", "x", "g", "L", "K"}, []string{"1", "3", "7", "X", "N", " "}); letter {
	case "x":
		return part(c.head(letter), c.records())
	case "g":
		return part(c.head(letter), c.of("", rec("mtime", "4"), rec("linkpath", "all"), rec("k", "v"), c.records()))
	case "L", "K":
		return part(c.head(letter), c.of(c.path(), c.path()+"\x00", strings.Repeat("n", 120)+"\x00more"))
	case "5", "2":
		return part(c.head(letter), c.rarely([]string{""}, []string{"d"}))
	default:
		return part(c.head(letter), strings.Repeat("d", c.Intn(4)*c.Intn(400)))
	}
}

func (c chance) archive() string {
	var s strings.Builder
	for range c.Intn(9) {
		s.WriteString(c.part())
	}
	s.WriteString(c.rarely([]string{end, end, end + "more"}, []string{"", end[:1023], end[:512], end[:512] + partFile("z", "")}))
	return s.String()
}

func TestReadOfArchivesByChance(t *testing.T) { // P17.2
	c := chance{rand.New(rand.NewSource(17))}
	met := map[api.Errno]int{}
	for n := range 40000 {
		s := c.archive()
		most, entries := plenty, plenty
		if c.Intn(10) == 0 {
			most, entries = c.Intn(1500), c.Intn(7)
		}
		met[likeModel(t, fmt.Sprint("archive ", n), s, most, entries)]++
		if c.Intn(4) == 0 { // turned in one byte
			b := []byte(s)
			if len(b) > 0 {
				b[c.Intn(len(b))] ^= byte(1 << c.Intn(8))
			}
			met[likeModel(t, fmt.Sprint("archive ", n, ", turned"), string(b), most, entries)]++
		}
	}
	for _, e := range []api.Errno{api.OK, api.ErrTarForm, api.ErrTarSum, api.ErrTarKind, api.ErrNameForm, api.ErrTimeOver, api.ErrTreeForm, api.ErrTreeTwice, api.ErrTreeOver} {
		if met[e] < 300 {
			t.Error(e, met)
		}
	}
}
