package tarfmt_test

import (
	"fmt"
	"math"
	"math/rand"
	"slices"
	"strings"
	"testing"

	"wainload/api"
	"wainload/tarfmt"
	"wainload/tree"
)

// wantWrite asks for each byte, and for what follows of it.
func wantWrite(t *testing.T, what string, l []api.Entry, want string) {
	t.Helper()
	was := slices.Clone(l)
	b, is := tarfmt.Write(l)
	if !is || string(b) != want {
		t.Errorf("P17.3: %s: Write(%s): %d bytes, %v, unlike from %d on", what, shown(l), len(b), is, unlike(string(b), want))
	}
	if !slices.Equal(l, was) {
		t.Errorf("R5: %s: %s were changed to %s", what, shown(was), shown(l))
	}
	wantReadOfWrite(t, what, l)
}

func unlike(a, b string) int {
	for n := range min(len(a), len(b)) {
		if a[n] != b[n] {
			return n
		}
	}
	return min(len(a), len(b))
}

// wantReadOfWrite asks with just the limits that the tree needs, and with one less.
func wantReadOfWrite(t *testing.T, what string, l []api.Entry) {
	t.Helper()
	b, _ := tarfmt.Write(l)
	s := string(b)
	size := tree.Size(l)
	what = "P17.4: " + what
	tells(t, what, s, size, len(l), l...)
	tells(t, what, s, math.MaxInt, math.MaxInt, l...)
	tells(t, what, s+"behind it", size, len(l), l...)
	if len(l) > 0 {
		refuses(t, what, s, size-1, len(l), api.ErrTreeOver)
		refuses(t, what, s, size, len(l)-1, api.ErrTreeOver)
		refuses(t, what, s, -1, -1, api.ErrTreeOver)
	}
	refuses(t, what, s[:len(s)-1], size, len(l), api.ErrTarForm)
}

// wantNoWrite also asks that nothing is told.
func wantNoWrite(t *testing.T, what string, l ...api.Entry) {
	t.Helper()
	was := slices.Clone(l)
	if b, is := tarfmt.Write(l); is || len(b) != 0 {
		t.Errorf("P17.3: %s: Write(%s): %d bytes, %v", what, shown(l), len(b), is)
	}
	if !slices.Equal(l, was) {
		t.Errorf("R5: %s: %s were changed to %s", what, shown(was), shown(l))
	}
}

func TestWriteOfNothing(t *testing.T) { // P17.3
	wantWrite(t, "none", nil, strings.Repeat("\x00", 1024))
	wantWrite(t, "an empty list", []api.Entry{}, strings.Repeat("\x00", 1024))
	wantWrite(t, "an empty list with room", make([]api.Entry, 0, 5), strings.Repeat("\x00", 1024))
}

// The bytes of these headers are written out, and not by a model.
func TestWriteOfEachKind(t *testing.T) { // P17.3
	nul := func(n int) string { return strings.Repeat("\x00", n) }
	for _, x := range []struct {
		e    api.Entry
		want string
	}{
		{api.Entry{Kind: api.File, Path: "a", Mode: 0644, Time: 5 * sec, Data: "text"}, "a" + nul(99) + "0000644\x00" + nul(16) + "00000000004\x0000000000005\x000004647\x000" + nul(100) + "ustar\x0000" + nul(247) + "text" + nul(508)},
		{api.Entry{Kind: api.Folder, Path: "a/b", Mode: 07777}, "a/b" + nul(97) + "0007777\x00" + nul(16) + "00000000000\x0000000000000\x000005102\x005" + nul(100) + "ustar\x0000" + nul(247)},
		{api.Entry{Kind: api.Link, Path: "l", Target: "../t", Mode: 0, Time: (1<<33 - 1) * sec}, "l" + nul(99) + "0000000\x00" + nul(16) + "00000000000\x0077777777777\x000005351\x002../t" + nul(96) + "ustar\x0000" + nul(247)},
	} {
		wantWrite(t, "one", []api.Entry{x.e}, x.want+end)
		if s := slowWrite([]api.Entry{x.e}); s != x.want+end {
			t.Error("the model is unlike from", unlike(s, x.want+end))
		}
	}
}

func TestWriteOfModes(t *testing.T) { // P17.3
	for mode := range 4096 {
		l := []api.Entry{withMode(file("a", ""), mode), withMode(folder("b"), 4095-mode), withMode(link("c", "to"), mode)}
		wantWrite(t, fmt.Sprintf("mode %o", mode), l, slowWrite(l))
	}
}

func TestWriteOfLongNames(t *testing.T) { // P17.3
	for _, n := range []int{1, 2, 98, 99, 100, 101, 102, 150, 155, 156, 199, 200} {
		for what, path := range map[string]string{"one part": strings.Repeat("n", n), "short parts": strings.Repeat("n/", n)[:n-1] + "n", "letters of two bytes": strings.Repeat("é", n/2) + strings.Repeat("n", n%2), "turned": strings.Repeat("n", n%2) + strings.Repeat("é", n/2)} {
			for _, m := range []int{1, 99, 100, 101, 199, 200} {
				target := strings.Repeat("/", m)
				l := []api.Entry{link(path, target)}
				if m%2 == 1 {
					l[0].Target = "t" + strings.Repeat("é", m/2)
				}
				wantWrite(t, fmt.Sprint(what, ", ", n, " to ", m), l, slowWrite(l))
			}
			l := []api.Entry{file(path, "data")}
			wantWrite(t, fmt.Sprint(what, ", ", n), l, slowWrite(l))
			l = []api.Entry{folder(path)}
			wantWrite(t, fmt.Sprint(what, ", ", n, ", a Folder"), l, slowWrite(l))
		}
	}
}

// No records stand ahead of what a header holds; of others there are just those that are needed, in their order.
func TestWriteOfRecords(t *testing.T) { // P17.3
	l100, l101 := strings.Repeat("l", 100), strings.Repeat("l", 101)
	path, linkpath := "111 path="+l101+"\n", "115 linkpath="+l101+"\n"
	for _, x := range []struct {
		e       api.Entry
		records string
	}{
		{link(l100, l100), ""}, {link(l101, l100), path}, {link(l100, l101), linkpath}, {link(l101, l101), path + linkpath},
		{withTime(link("a", "to"), -sec), "12 mtime=-1\n"}, {withTime(link(l100, l100), 1), "21 mtime=0.000000001\n"},
		{withTime(link(l101, "to"), -1), path + "22 mtime=-0.000000001\n"}, {withTime(link("a", l101), sec/2), linkpath + "13 mtime=0.5\n"},
		{withTime(link(l101, l101), 1<<33*sec), path + linkpath + "20 mtime=8589934592\n"}, {withTime(file(l101, "d"), 1<<33*sec-1), path + "30 mtime=8589934591.999999999\n"}, {withTime(folder("a"), -9000000000*sec), "21 mtime=-9000000000\n"},
	} {
		b, is := tarfmt.Write([]api.Entry{x.e})
		if !is {
			t.Fatal(shown([]api.Entry{x.e}))
		}
		if x.records == "" {
			if len(b) != 512+1024 {
				t.Errorf("P17.3: %s: %d bytes", shown([]api.Entry{x.e}), len(b))
			}
			continue
		}
		filled := filled(x.records)
		if !strings.HasPrefix(string(b), "pax\x00") || b[156] != 'x' || string(b[512:512+len(filled)]) != filled || string(b[100:108]) != "0000644\x00" || string(b[124:136]) != fmt.Sprintf("%011o\x00", len(x.records)) || string(b[136:148]) != "00000000000\x00" {
			t.Errorf("P17.3: %s: %q", shown([]api.Entry{x.e}), b[:512+len(filled)])
		}
		wantWrite(t, "records", []api.Entry{x.e}, slowWrite([]api.Entry{x.e}))
	}
}

func TestWriteOfTimes(t *testing.T) { // P17.3
	const last = 1<<33 - 1 // the greatest number of eleven octal digits
	for _, x := range []struct {
		t      int64
		inHead string // "": a record tells it
	}{
		{0, "00000000000"}, {sec, "00000000001"}, {7 * sec, "00000000007"}, {8 * sec, "00000000010"}, {1 << 31 * sec, "20000000000"}, {last * sec, "77777777777"}, {(last - 1) * sec, "77777777776"},
		{-1, ""}, {1, ""}, {sec - 1, ""}, {sec + 1, ""}, {-sec, ""}, {-sec - 1, ""}, {-sec + 1, ""}, {last*sec - 1, ""}, {last*sec + 1, ""}, {last*sec + sec - 1, ""}, {(last + 1) * sec, ""}, {(last+1)*sec + 1, ""}, {(last + 2) * sec, ""},
		{9000000000 * sec, ""}, {9000000000*sec - 1, ""}, {-9000000000 * sec, ""}, {-9000000000*sec + 1, ""}, {100, ""}, {sec / 2, ""}, {1700000000123456789, ""}, {1700000000 * sec, "14524770400"},
	} {
		for _, e := range []api.Entry{file("a", "data"), folder("a"), link("a", "to")} {
			e.Time = x.t
			l := []api.Entry{e}
			wantWrite(t, fmt.Sprint("time ", x.t), l, slowWrite(l))
			b, _ := tarfmt.Write(l)
			at, inHead := 0, x.inHead
			if inHead == "" {
				at, inHead = 1024, "00000000000"
			}
			if string(b[at+136:at+148]) != inHead+"\x00" || b[at] != 'a' {
				t.Errorf("P17.3: time %d: %q", x.t, b[at:at+148])
			}
		}
	}
	for _, over := range []int64{9000000000*sec + 1, 9000000001 * sec, -9000000000*sec - 1, -9000000001 * sec, math.MaxInt64, math.MinInt64} {
		for _, e := range []api.Entry{file("b", "data"), folder("b"), link("b", "to")} {
			e.Time = over
			wantNoWrite(t, "time that tar can't hold", e)
			wantNoWrite(t, "time that tar can't hold, behind others", folder("a"), e)
			wantNoWrite(t, "time that tar can't hold, ahead of others", e, folder("c"))
		}
	}
}

func TestWriteOfData(t *testing.T) { // P17.3
	for _, n := range []int{0, 1, 2, 510, 511, 512, 513, 514, 1023, 1024, 1025, 5000, api.MaxData - 1, api.MaxData} {
		for _, of := range []string{"d", "\x00", "\xff\n="} {
			data := strings.Repeat(of, n/len(of)+1)[:n]
			l := []api.Entry{file("a", data), folder("b"), file("c", "behind it")}
			wantWrite(t, fmt.Sprint(n, " bytes"), l, slowWrite(l))
		}
	}
	wantWrite(t, "what looks like an end", []api.Entry{file("a", end+end)}, slowWrite([]api.Entry{file("a", end+end)}))
	inside := partFile("z", "z") + end
	wantWrite(t, "what looks like an archive", []api.Entry{file("a", inside)}, slowWrite([]api.Entry{file("a", inside)}))
}

func TestWriteOfWhatIsNoTree(t *testing.T) { // P17.3
	long := strings.Repeat("n", 201)
	for what, e := range map[string]api.Entry{
		"zero": {}, "no path": file("", ""), "not clean": file("a/", ""), "leads out": file("../a", ""), "begins with a slash": file("/a", ""), "not Valid": file("\xff", ""), "a byte 0": file("a\x00", ""), "201 bytes": file(long, ""),
		"no kind": {Path: "a"}, "kind 4": {Path: "a", Kind: 4}, "kind -1": {Path: "a", Kind: -1}, "mode -1": withMode(file("a", ""), -1), "mode 4096": withMode(file("a", ""), 4096),
		"a File's Target": {Kind: api.File, Path: "a", Target: "to"}, "a Folder's Target": {Kind: api.Folder, Path: "a", Target: "to"}, "a Folder's Data": {Kind: api.Folder, Path: "a", Data: "d"}, "a Link's Data": {Kind: api.Link, Path: "a", Target: "to", Data: "d"},
		"no Target": link("a", ""), "Target with a byte 0": link("a", "t\x00"), "Target not Valid": link("a", "\xff"), "Target of 201 bytes": link("a", long), "too much Data": file("a", strings.Repeat("d", api.MaxData+1)),
	} {
		wantNoWrite(t, what, e)
		wantNoWrite(t, what+", behind another", file("A", "data"), e)
		wantNoWrite(t, what+", ahead of another", e, file("z", "data"))
	}
	wantNoWrite(t, "twice", file("a", ""), file("a", ""))
	wantNoWrite(t, "not rising", file("b", ""), file("a", ""))
	wantNoWrite(t, "below a File", file("a", ""), file("a/b", ""))
	wantNoWrite(t, "below a Link", link("a", "to"), folder("a/b"))
	var many []api.Entry
	for n := range 1001 {
		many = append(many, file(fmt.Sprintf("%04d", n), "d"))
	}
	wantNoWrite(t, "1001 entries", many...)
	wantWrite(t, "1000 entries", many[:1000], slowWrite(many[:1000]))
}

// tree makes a tree that tar can hold.
func (c chance) tree() []api.Entry {
	var l []api.Entry
	for range c.Intn(8) {
		e := api.Entry{Kind: 1 + c.Intn(3), Mode: c.Intn(4096), Path: c.of("a", "b", "c/d", "é")}
		for range c.Intn(5) {
			e.Path += c.of("/e", "f", "-", "/", strings.Repeat("g", 1+c.Intn(60)), "é", " ", ".h")
		}
		if e.Path = strings.Trim(e.Path, "/"); len(e.Path) > 200 || strings.Contains(e.Path, "//") {
			continue
		}
		switch e.Kind {
		case api.File:
			e.Data = strings.Repeat(c.of("d", "\x00", "data\n"), c.Intn(1+c.Intn(800)))
		case api.Link:
			e.Target = strings.Repeat(c.of("t", "/", ".", "é"), 1+c.Intn(100))
		}
		switch e.Time = c.Int63n(1<<33) * sec; c.Intn(4) {
		case 0:
			e.Time = c.Int63n(18000000000*sec/2) - 9000000000*sec/2
		case 1:
			e.Time = (c.Int63n(18000000001) - 9000000000) * sec
		}
		if with := tree.Sort(append(slices.Clone(l), e)); tree.Can(with, api.TarGz) {
			l = with
		}
	}
	return l
}

func TestReadOfWrite(t *testing.T) { // P17.3, P17.4
	c := chance{rand.New(rand.NewSource(18))}
	many := 0
	for n := range 10000 {
		l := c.tree()
		many += len(l)
		wantWrite(t, fmt.Sprint("tree ", n), l, slowWrite(l))
	}
	if many < 20000 {
		t.Error("few entries:", many)
	}
}

func TestWhatIsToldIsTheCallersOwn(t *testing.T) { // P17.2, P17.3, R5, R6, R7
	l := []api.Entry{file("a", "data"), withTime(link(strings.Repeat("n", 120), strings.Repeat("t", 120)), -1)}
	first, _ := tarfmt.Write(l)
	want := string(first)
	for n := range first {
		first[n] = 'x'
	}
	_ = append(first[:10], "more"...)
	second, _ := tarfmt.Write(l)
	if string(second) != want {
		t.Error("P17.3: not the same again")
	}
	told, e := tarfmt.Read(second, plenty, plenty)
	again, _ := tarfmt.Read(second, plenty, plenty)
	for n := range second { // what was handed in is not kept
		second[n] = 'y'
	}
	if e != api.OK || !slices.Equal(told, l) || !slices.Equal(again, l) {
		t.Error("P17.2:", shown(told), shown(again), e)
	}
	told[0], told[1] = api.Entry{}, folder("x")
	_ = append(told[:1], file("z", "z"))
	tells(t, "P17.2: again", want, plenty, plenty, l...)
	if !slices.Equal(again, l) {
		t.Error("P17.2:", shown(again))
	}
}

func TestExamples(t *testing.T) { // P17.1, P17.2, P17.3
	if s := tarfmt.Records([][2]string{{"path", "a"}}); s != "9 path=a\n" {
		t.Errorf("%q", s)
	}
	wantWrite(t, "nothing", nil, string(make([]byte, 1024)))
	tells(t, "1024 bytes 0", string(make([]byte, 1024)), 0, 0)
	h := head{name: "a"}.whole(0) // DOC.md's eighth one
	h.sum = fmt.Sprintf("%07o", h.total()+1)
	refuses(t, "another sum", h.bytes()+end, 0, 1, api.ErrTarSum)
}
