package tarfmt_test

import (
	"fmt"
	"strings"
	"testing"

	"wainload/api"
	"wainload/tarfmt"
)

// What x, g, L and K say of entries.

func TestReadOfRecordsOfTheNextEntryAlone(t *testing.T) { // P17.2
	for _, e := range []struct {
		part string
		want api.Entry
	}{{partFile("a", "d"), file("p", "d")}, {partFolder("a"), folder("p")}, {partLink("a", "to"), link("p", "l")}} {
		e.want.Time = -sec / 2
		s := said("x", rec("path", "p")+rec("linkpath", "l")+rec("mtime", "-0.5")) + e.part
		tells(t, "the next one", s+end, 1, 1, e.want)
		tells(t, "and no other", s+partFile("q", "e")+partLink("r", "to")+partFolder("s")+end, 2, 4, e.want, file("q", "e"), link("r", "to"), folder("s"))
		refuses(t, "and no other, amiss", s+partFile("../q", "")+end, 1, 2, api.ErrNameForm)
	}
	tells(t, "a size", said("x", rec("size", "3"))+part(head{name: "a", size: "0"}, "abc")+partFile("b", "defg")+end, 7, 2, file("a", "abc"), file("b", "defg"))
	tells(t, "a target, used up by a File", said("x", rec("linkpath", "l"))+partFile("a", "")+partLink("b", "to")+end, 0, 2, file("a", ""), link("b", "to"))
}

func TestReadOfRecordsOfAllEntries(t *testing.T) { // P17.2
	g := said("g", rec("linkpath", "l")+rec("mtime", "3"))
	tells(t, "all from there on", partLink("a", "to")+g+partLink("b", "to")+partFile("c", "")+partLink("d", "to")+end, 0, 4, link("a", "to"), withTime(link("b", "l"), 3*sec), withTime(file("c", ""), 3*sec), withTime(link("d", "l"), 3*sec))
	tells(t, "a path of one", partFile("a", "")+said("g", rec("path", "p"))+partFile("b", "")+end, 0, 2, file("a", ""), file("p", ""))
	refuses(t, "a path of two", said("g", rec("path", "p"))+partFile("b", "")+partFile("c", "")+end, 0, 2, api.ErrTreeTwice)
	tells(t, "another path", said("g", rec("path", "p"))+partFile("b", "")+said("g", rec("path", "q"))+partFile("c", "")+end, 0, 2, file("p", ""), file("q", ""))
	tells(t, "a later one of one key", g+partFile("a", "")+said("g", rec("mtime", "4"))+partLink("b", "to")+end, 0, 2, withTime(file("a", ""), 3*sec), withTime(link("b", "l"), 4*sec))
	tells(t, "two side by side", said("g", rec("mtime", "4"))+g+partFile("a", "")+end, 0, 1, withTime(file("a", ""), 3*sec))
	tells(t, "one with nothing takes nothing back", g+said("g", "")+partFile("a", "")+end, 0, 1, withTime(file("a", ""), 3*sec))
	refuses(t, "what is amiss stays", said("g", rec("mtime", "x"))+partFile("a", "")+end, 0, 1, api.ErrTarForm)
	tells(t, "what is amiss, till another comes", said("g", rec("mtime", "x"))+said("g", rec("mtime", "1"))+partFile("a", "")+end, 0, 1, withTime(file("a", ""), sec))
}

func TestReadOfBothKindsOfRecords(t *testing.T) { // P17.2
	x, g := said("x", rec("mtime", "1")), said("g", rec("mtime", "2")+rec("path", "p"))
	for what, s := range map[string]string{"x, g": x + g, "g, x": g + x, "g, x, g": g + x + g, "x, g, g": x + g + g} {
		tells(t, what, s+partFile("a", "")+said("x", rec("path", "q"))+partFile("b", "")+end, 0, 2, withTime(file("p", ""), sec), withTime(file("q", ""), 2*sec))
	}
	tells(t, "x alone is amiss", said("x", rec("path", "q"))+g+partFile("a", "")+end, 0, 1, withTime(file("q", ""), 2*sec))
	refuses(t, "x is amiss, g is not", said("x", rec("mtime", "x"))+g+partFile("a", "")+end, 0, 1, api.ErrTarForm)
	refuses(t, "x is none, g is", said("x", rec("path", ""))+g+partFile("a", "")+end, 0, 1, api.ErrNameForm)
	tells(t, "g is amiss, x is not", said("g", rec("mtime", "x"))+x+partFile("a", "")+end, 0, 1, withTime(file("a", ""), sec))
	refuses(t, "g is amiss, x is used up", said("g", rec("mtime", "x"))+x+partFile("a", "")+partFile("b", "")+end, 0, 2, api.ErrTarForm)
}

func TestReadOfSeveralRecordsOfOneEntry(t *testing.T) { // P17.2
	for _, letter := range []string{"x", "g"} {
		tells(t, letter+": the last value of one key", said(letter, rec("path", "p")+rec("mtime", "1")+rec("path", "q")+rec("mtime", "2")+rec("path", "r"))+partFile("a", "")+end, 0, 1, withTime(file("r", ""), 2*sec))
		tells(t, letter+": of two texts", said(letter, rec("path", "p")+rec("mtime", "1"))+said(letter, rec("path", "q"))+partFile("a", "")+end, 0, 1, withTime(file("q", ""), sec))
		tells(t, letter+": the last size", said(letter, rec("size", "1000"))+said(letter, rec("size", "x")+rec("size", "2"))+part(head{name: "a"}, "ab")+end, 2, 1, file("a", "ab"))
		refuses(t, letter+": the last value is amiss", said(letter, rec("mtime", "1")+rec("mtime", "x"))+partFile("a", "")+end, 0, 1, api.ErrTarForm)
		refuses(t, letter+": the last value is empty", said(letter, rec("path", "p")+rec("path", ""))+partFile("a", "")+end, 0, 1, api.ErrNameForm)
		tells(t, letter+": the last value is not amiss", said(letter, rec("mtime", "x")+rec("path", "..")+rec("mtime", "1")+rec("path", "p"))+partFile("a", "")+end, 0, 1, withTime(file("p", ""), sec))
		tells(t, letter+": no record", said(letter, "")+partFile("a", "")+end, 0, 1, file("a", ""))
	}
}

func TestReadOfRecordsThatStandForNothing(t *testing.T) { // P17.2
	for _, key := range []string{"Path", "PATH", "path ", " path", "pat", "paths", "path\x00", "\npath", "link", "linkname", "Linkpath", "mtim", "atime", "ctime", "mode", "Size", "size ", "uid", "gid", "uname", "comment", "hdrcharset", "GNU.sparse.name", "GNU.sparse.size", "SCHILY.xattr.path", "é", "\xff"} {
		for _, letter := range []string{"x", "g"} {
			tells(t, fmt.Sprintf("%s %q", letter, key), said(letter, rec(key, "x")+rec(key, ""))+partFile("a", "d")+partLink("b", "to")+end, 1, 2, file("a", "d"), link("b", "to"))
		}
	}
	tells(t, "a value with records", said("x", rec("comment", "\n9 path=p\n"))+partFile("a", "")+end, 0, 1, file("a", ""))
}

func TestReadOfWhatIsNoRecords(t *testing.T) { // P17.2
	for _, letter := range []string{"x", "g"} {
		for _, none := range []string{"x", "\x00", " ", "\n", "9 path=a", "8 path=a\n", "09 path=a\n", "9 path=a\n\x00", "9 path=a\n\n", "5 =a\n", "4 =\n", "5 abc\n", "99 path=a\n", "9 path=a\n9 path=b"} {
			what := fmt.Sprintf("%s %q", letter, none)
			refuses(t, what, said(letter, none)+partFile("a", "")+end, 0, 1, api.ErrTarForm)
			refuses(t, what+", no entry behind", said(letter, none)+end, 0, 0, api.ErrTarForm)
			refuses(t, what+", no type behind", said(letter, none)+part(head{name: "a", letter: "1"}, "")+end, 0, 0, api.ErrTarForm)
			refuses(t, what+", another type ahead", part(head{name: "a", letter: "1"}, "")+said(letter, none)+end, 0, 0, api.ErrTarKind)
			if records := rec("path", "p") + none; !strings.HasPrefix(none, "9 path=a\n") {
				refuses(t, what+", behind others", said(letter, records)+partFile("a", "")+end, 0, 1, api.ErrTarForm)
			}
		}
	}
}

func TestReadOfGnusNames(t *testing.T) { // P17.2
	long := strings.Repeat("n", 200)
	for name, path := range map[string]string{"p": "p", "p\x00": "p", "p\x00q": "p", "p\x00\x00/..": "p", "./p//q/": "p/q", long: long, long + "\x00": long, long[:100]: long[:100], long[:101]: long[:101], strings.Repeat("./", 300) + "p": "p"} {
		tells(t, fmt.Sprintf("L %q", name), said("L", name)+partFile("a", "d")+partFile("b", "e")+end, 2, 2, sorted(file(path, "d"), file("b", "e"))...)
		tells(t, fmt.Sprintf("L %q of a Folder", name), said("L", name)+partFolder("a")+end, 0, 1, folder(path))
		tells(t, fmt.Sprintf("L %q of a Link", name), said("L", name)+partLink("a", "to")+end, 0, 1, link(path, "to"))
		tells(t, fmt.Sprintf("L %q, and a prefix", name), said("L", name)+part(head{name: "a", prefix: "x"}, "")+end, 0, 1, file(path, ""))
		tells(t, fmt.Sprintf("L %q with GNU's mark", name), part(head{name: "././@LongLink", letter: "L", mark: gnu}, name)+part(head{name: "a", mark: gnu}, "")+end, 0, 1, file(path, ""))
	}
	refuses(t, "201 bytes", said("L", long+"n")+partFile("a", "")+end, 0, 1, api.ErrNameForm)
	for _, empty := range []string{"", "\x00", "\x00p"} { // it came, so it is the name
		refuses(t, fmt.Sprintf("L %q", empty), said("L", empty)+partFile("a", "")+end, 0, 1, api.ErrNameForm)
		refuses(t, fmt.Sprintf("L %q behind another", empty), said("L", "p")+said("L", empty)+partFile("a", "")+end, 0, 1, api.ErrNameForm)
	}
	tells(t, "the last one", said("L", "p")+said("L", "q")+partFile("a", "")+end, 0, 1, file("q", ""))
	tells(t, "the last one that leads to", said("K", "l")+said("K", "m")+partLink("a", "to")+end, 0, 1, link("a", "m"))
	for what, s := range map[string]string{"K, L": said("K", "l") + said("L", "p"), "L, K": said("L", "p") + said("K", "l")} {
		tells(t, what, s+partLink("a", "to")+partLink("b", "to")+end, 0, 2, link("b", "to"), link("p", "l"))
		tells(t, what+" of a File, used up", s+partFile("a", "")+partLink("b", "to")+end, 0, 2, link("b", "to"), file("p", ""))
		tells(t, what+" of a Folder, used up", s+partFolder("a")+partLink("b", "to")+end, 0, 2, link("b", "to"), folder("p"))
	}
}

// sorted lays the first one behind, if it doesn't rise.
func sorted(a, b api.Entry) []api.Entry {
	if b.Path < a.Path {
		return []api.Entry{b, a}
	}
	return []api.Entry{a, b}
}

func TestReadOfGnusNamesBehindRecords(t *testing.T) { // P17.2
	gnus := said("L", "gnu") + said("K", "gnus")
	for _, letter := range []string{"x", "g"} {
		path, linkpath, both := said(letter, rec("path", "p")), said(letter, rec("linkpath", "l")), said(letter, rec("linkpath", "l")+rec("path", "p"))
		for what, x := range map[string]struct {
			ahead string
			want  api.Entry
		}{
			"path": {path, link("p", "gnus")}, "linkpath": {linkpath, link("gnu", "l")}, "both": {both, link("p", "l")}, "neither": {said(letter, rec("k", "v")), link("gnu", "gnus")},
		} {
			tells(t, letter+" ahead: "+what, x.ahead+gnus+partLink("a", "to")+end, 0, 1, x.want)
			tells(t, letter+" behind: "+what, gnus+x.ahead+partLink("a", "to")+end, 0, 1, x.want)
		}
		refuses(t, letter+": an empty path", gnus+said(letter, rec("path", ""))+partLink("a", "to")+end, 0, 1, api.ErrNameForm)
		refuses(t, letter+": an empty linkpath", gnus+said(letter, rec("linkpath", ""))+partLink("a", "to")+end, 0, 1, api.ErrTreeForm)
		refuses(t, letter+": a path that leads out", gnus+said(letter, rec("path", "../p"))+partLink("a", "to")+end, 0, 1, api.ErrNameForm)
	}
	// What the records covered is used up with them.
	tells(t, "used up", gnus+said("x", rec("path", "p")+rec("linkpath", "l"))+partLink("a", "to")+partLink("b", "to")+end, 0, 2, link("b", "to"), link("p", "l"))
	tells(t, "g stays", gnus+said("g", rec("linkpath", "l"))+partLink("a", "to")+partLink("b", "to")+end, 0, 2, link("b", "l"), link("gnu", "l"))
}

func TestReadOfWhatIsSaidOfNoEntry(t *testing.T) { // P17.2
	for what, s := range map[string]string{
		"x": said("x", rec("path", "p")), "g": said("g", rec("size", "5")), "L": said("L", "p"), "K": said("K", "l"), "all": said("g", rec("path", "q")) + said("x", rec("path", "..")) + said("L", "") + said("K", ""), "x amiss": said("x", rec("size", "x")+rec("mtime", "x")+rec("path", "/")),
	} {
		tells(t, what, s+end, 0, 0)
		tells(t, what+", behind an entry", partFile("a", "d")+s+end, 1, 1, file("a", "d"))
		refuses(t, what+", and no end", s, 0, 0, api.ErrTarForm)
	}
}

func TestReadOfWhatIsSaidUnderAnyMark(t *testing.T) { // P17.2
	for _, mark := range []string{ustar, gnu} {
		of := func(letter, body string) string {
			return part(head{name: "../said", prefix: "/..", letter: letter, mark: mark, link: "\xff", mode: "7777777"}, body)
		}
		tells(t, fmt.Sprintf("%q", mark), of("g", rec("mtime", "2"))+of("x", rec("path", "p"))+of("K", "l")+of("L", "q")+partLink("a", "to")+end, 0, 1, withTime(link("p", "l"), 2*sec))
	}
}

// Many records that come again and again don't take longer and longer.
func TestReadOfMuchThatIsSaid(t *testing.T) { // P17.2: R1, each call ends
	var records strings.Builder
	for n := range 50000 {
		records.WriteString(rec(fmt.Sprint("key", n), "value"))
	}
	s := said("x", records.String()+rec("path", "p")) + partFile("a", "") + said("g", records.String()+rec("mtime", "1"))
	want := []api.Entry{file("p", "")}
	var more strings.Builder
	for n := range 900 {
		more.WriteString(said("x", rec("k", "v")) + said("L", fmt.Sprintf("q%03d", n)) + partFile("a", ""))
		want = append(want, withTime(file(fmt.Sprintf("q%03d", n), ""), sec))
	}
	tells(t, "much", s+more.String()+end, 0, 901, want...)
	long := said("g", tarfmt.Records([][2]string{{"mtime", "1." + strings.Repeat("0", 1<<20)}, {"linkpath", strings.Repeat("l", 1<<20)}}))
	want = nil
	more.Reset()
	for n := range 1000 {
		more.WriteString(partFile(fmt.Sprintf("q%03d", n), ""))
		want = append(want, withTime(file(fmt.Sprintf("q%03d", n), ""), sec))
	}
	tells(t, "long", long+more.String()+end, 0, 1000, want...)
	tells(t, "of no entry", strings.Repeat(said("x", rec("path", "p")), 20000)+strings.Repeat(said("g", ""), 20000)+end, 0, 0)
}
