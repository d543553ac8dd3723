package tree_test

import (
	"math"
	"math/rand"
	"slices"
	"strconv"
	"strings"
	"testing"

	"wainload/api"
	"wainload/names"
	"wainload/times"
	"wainload/tree"
)

// formats are those that there are, and numbers that are none.
var formats = []int{api.Zip, api.TarGz, api.Solid, 0, 4, -1, -2, -3, 5, 100, math.MinInt, math.MinInt + 1, math.MaxInt}

// kinds are those that there are.
var kinds = []int{api.File, api.Folder, api.Link}

// edgeTimes are those beside which something changes.
var edgeTimes = []int64{
	leastTime, leastTime + 1, leastTime + 6, leastTime + 7, leastZip, leastZip + 1, leastZip + 99, leastZip + 100, leastZip + 101,
	leastTar - 101, leastTar - 100, leastTar - 99, leastTar - 1, leastTar, leastTar + 1, leastTar + 100,
	-201, -200, -199, -101, -100, -99, -2, -1, 0, 1, 2, 99, 100, 101, 199, 200, 201,
	mostTar - 100, mostTar - 1, mostTar, mostTar + 1, mostTar + 99, mostTar + 100, mostTar + 101,
	mostTime - 107, mostTime - 100, mostTime - 8, mostTime - 7, mostTime - 1, mostTime,
}

// rightPaths are clean.
var rightPaths = []string{
	"a", "a/b", "a/b/c", "a b", " ", "a\\b", "C:", "...", "a/...", ".a", "a.", "..a", "a..", "a/.b/..c", "-", "~", "\x01", "\x7f", "a\nb",
	"é", "é/ü", "\u20ac", "\U0001f600", "\ufffd", "\U0010ffff", "\ufeff",
	strings.Repeat("a", 199), strings.Repeat("a", 200), strings.Repeat("a/", 99) + "aa", strings.Repeat("é", 100), strings.Repeat("a", 197) + "/bc",
}

// wrongPaths are not what names.Clean makes of them, or it makes nothing of them.
var wrongPaths = []string{
	"", "/", "//", "/a", "//a", "a/", "a//", "a/b/", "a//b", "a///b", "a/b//c", ".", "./a", "a/.", "a/./b", "./", "..", "../a", "a/..", "a/../b", "a/b/../c", "a/b/..", "../",
	"\x00", "a\x00", "\x00a", "a/\x00/b", "\xff", "a\xff", "\xffa", "a/\x80", "\xc0\xaf", "a\xed\xa0\x80", "\xf4\x90\x80\x80", "a\xc3", "\xc3/a",
	strings.Repeat("a", 201), strings.Repeat("a", 300), strings.Repeat("a/", 100) + "b", strings.Repeat("é", 100) + "a", strings.Repeat("a", 200) + "/", strings.Repeat("a", 200) + "/.", strings.Repeat("a", 5000), strings.Repeat("/", 201),
}

// rightTargets may be whatever text a Link leads to: it need not be a path.
var rightTargets = []string{
	"x", "a/b", "/", "/a", "a/", "a//b", ".", "..", "../..", "./a", " ", "\x01", "\x7f", "é", "\ufffd", "\U0010ffff",
	strings.Repeat("x", 199), strings.Repeat("x", 200), strings.Repeat("é", 100), strings.Repeat("/", 200), strings.Repeat("\U0001f600", 50),
}

var wrongTargets = []string{
	"", "\x00", "a\x00", "\x00a", "a\x00b", "\xff", "a\xff", "\x80a", "\xc0\xaf", "\xed\xa0\x80", "\xf4\x90\x80\x80", "a\xc3", "\xe2\x82",
	strings.Repeat("x", 201), strings.Repeat("x", 202), strings.Repeat("é", 100) + "x", strings.Repeat("é", 101), strings.Repeat("x", 5000), strings.Repeat("x", 199) + "é",
}

// bigData has a byte more than an entry may have.
var bigData = strings.Repeat("d", api.MaxData+1)

// list is never nil, so that an empty one is asked for beside none.
func list(entries ...api.Entry) []api.Entry { return append([]api.Entry{}, entries...) }

func file(path string) api.Entry { return api.Entry{Kind: api.File, Path: path} }

func folder(path string) api.Entry { return api.Entry{Kind: api.Folder, Path: path} }

func link(path string) api.Entry { return api.Entry{Kind: api.Link, Path: path, Target: "x"} }

func ofKind(kind int, path string) api.Entry {
	if kind == api.Link {
		return link(path)
	}
	return api.Entry{Kind: kind, Path: path}
}

func timed(at int64) api.Entry { return api.Entry{Kind: api.File, Path: "a", Time: at} }

func withData(e api.Entry, data string) api.Entry {
	e.Data = data
	return e
}

func withTarget(e api.Entry, target string) api.Entry {
	e.Target = target
	return e
}

func withMode(e api.Entry, mode int) api.Entry {
	e.Mode = mode
	return e
}

func withTime(e api.Entry, at int64) api.Entry {
	e.Time = at
	return e
}

func number(n int) string { return strconv.Itoa(n + 100000) }

// many is a tree of so many Files.
func many(n int) []api.Entry {
	var t []api.Entry
	for at := range n {
		t = append(t, file(number(at)))
	}
	return t
}

// short is a list as it may be told of, without long texts.
func short(t []api.Entry) string {
	var s strings.Builder
	for n, e := range t {
		if n == 8 {
			return s.String() + " .. (" + strconv.Itoa(len(t)) + ")"
		}
		s.WriteString(" {" + strconv.Itoa(e.Kind) + " " + shortText(e.Path) + " " + shortText(e.Target) + " " + strconv.Itoa(e.Mode) + " " + strconv.FormatInt(e.Time, 10) + " " + shortText(e.Data) + "}")
	}
	return "[" + s.String() + " ]"
}

func shortText(s string) string {
	if len(s) > 30 {
		return strconv.Quote(s[:30]) + "..(" + strconv.Itoa(len(s)) + ")"
	}
	return strconv.Quote(s)
}

// kept tells after a call whether what it was given is still as it was (R5).
func kept(t *testing.T, given []api.Entry) func() {
	was := append([]api.Entry{}, given...)
	return func() {
		t.Helper()
		if !slowSame(given, was) {
			t.Errorf("R5: what was given has changed: %s to %s", short(was), short(given))
		}
	}
}

func wantCheck(t *testing.T, l []api.Entry, want api.Errno) {
	t.Helper()
	still := kept(t, l)
	if got := tree.Check(l); got != want {
		t.Errorf("P16.1: Check(%s): %d; want %d", short(l), got, want)
	}
	still()
}

// wantCheckAlone asks of one entry, and of it behind others, all in order.
func wantCheckAlone(t *testing.T, e api.Entry, want api.Errno) {
	t.Helper()
	wantCheck(t, list(e), want)
	if e.Path > "\x02" {
		wantCheck(t, list(file("\x01"), folder("\x02"), e), want)
	}
}

func wantCheckAsModel(t *testing.T, l []api.Entry) {
	t.Helper()
	if got, want := tree.Check(l), slowCheck(l); got != want {
		t.Errorf("P16.1: Check(%s): %d; want %d", short(l), got, want)
	}
}

func wantSort(t *testing.T, l, want []api.Entry) {
	t.Helper()
	still := kept(t, l)
	got := tree.Sort(l)
	if !slowSame(got, want) {
		t.Errorf("P16.2: Sort(%s): %s; want %s", short(l), short(got), short(want))
	}
	still()
	if twice := tree.Sort(got); !slowSame(twice, want) {
		t.Errorf("P16.5: Sort of the sorted %s: %s", short(want), short(twice))
	}
}

func wantFind(t *testing.T, l []api.Entry, path string, want api.Entry) {
	t.Helper()
	still := kept(t, l)
	if got, is := tree.Find(l, path); got != want || !is {
		t.Errorf("P16.2: Find(%s, %q): %s, %v; want %s", short(l), path, short(list(got)), is, short(list(want)))
	}
	still()
}

// wantNoFind also asks that no entry is told.
func wantNoFind(t *testing.T, l []api.Entry, path string) {
	t.Helper()
	if got, is := tree.Find(l, path); got != (api.Entry{}) || is {
		t.Errorf("P16.2: Find(%s, %q): %s, %v", short(l), path, short(list(got)), is)
	}
}

func wantSize(t *testing.T, l []api.Entry, want int) {
	t.Helper()
	still := kept(t, l)
	if got := tree.Size(l); got != want {
		t.Errorf("P16.2: Size(%s): %d; want %d", short(l), got, want)
	}
	still()
}

// wantSame asks both ways.
func wantSame(t *testing.T, a, b []api.Entry, want bool) {
	t.Helper()
	stillA, stillB := kept(t, a), kept(t, b)
	if tree.Same(a, b) != want || tree.Same(b, a) != want {
		t.Errorf("P16.2: Same(%s, %s) is not %v", short(a), short(b), want)
	}
	stillA()
	stillB()
}

func wantCan(t *testing.T, l []api.Entry, format int, want bool) {
	t.Helper()
	still := kept(t, l)
	if tree.Can(l, format) != want {
		t.Errorf("P16.3: Can(%s, %d) is not %v", short(l), format, want)
	}
	still()
}

// wantProject also asks what follows of it.
func wantProject(t *testing.T, l []api.Entry, format int, want []api.Entry) {
	t.Helper()
	still := kept(t, l)
	got := tree.Project(l, format)
	if !slowSame(got, want) {
		t.Errorf("P16.4: Project(%s, %d): %s; want %s", short(l), format, short(got), short(want))
	}
	still()
	wantWhatFollows(t, l, format, got)
}

func wantWhatFollows(t *testing.T, l []api.Entry, format int, projected []api.Entry) {
	t.Helper()
	if twice := tree.Project(projected, format); !slowSame(twice, projected) {
		t.Errorf("P16.5: Project(%s, %d), which is projected: %s", short(projected), format, short(twice))
	}
	if tree.Check(l) == api.OK && tree.Check(projected) != api.OK {
		t.Errorf("P16.5: the tree %s, projected to %d, is none", short(l), format)
	}
	if tree.Can(l, format) && !tree.Can(projected, format) {
		t.Errorf("P16.5: %d can hold %s, but not projected", format, short(l))
	}
}

// The models too are held against what is plain, and against the layers below.
func TestModel(t *testing.T) {
	for _, x := range []struct {
		t    []api.Entry
		want api.Errno
	}{
		{nil, api.OK}, {list(folder("a"), file("a/b")), api.OK}, {list(file("a"), file("a/b")), api.ErrTreeForm}, {list(file("a"), file("a-"), file("a/b")), api.ErrTreeForm},
		{list(file("a"), file("a")), api.ErrTreeTwice}, {list(file("b"), file("a")), api.ErrTreeForm}, {list(withData(file("a"), bigData)), api.ErrTreeOver},
	} {
		if got := slowCheck(x.t); got != x.want {
			t.Errorf("slowCheck(%s): %d", short(x.t), got)
		}
	}
	for _, p := range rightPaths {
		if clean, err := names.Clean(p); clean != p || err != api.OK || !slowClean(p) {
			t.Errorf("%s is not clean", shortText(p))
		}
	}
	for _, p := range wrongPaths {
		if clean, err := names.Clean(p); clean == p && err == api.OK || slowClean(p) {
			t.Errorf("%s is clean", shortText(p))
		}
	}
	for _, n := range edgeTimes {
		if got, want := slowFloor(n), times.Floor(n, 100); got != want {
			t.Errorf("slowFloor(%d): %d; want %d", n, got, want)
		}
		if _, is := times.FromNt(times.ToNt(n)); is != (n >= leastZip) {
			t.Errorf("FromNt(ToNt(%d)): %v", n, is)
		}
	}
}

func TestExamples(t *testing.T) { // P16.1, P16.4
	wantCheck(t, list(file("a"), file("a/b")), api.ErrTreeForm)
	wantCheck(t, list(folder("a"), file("a/b")), api.OK)
	wantProject(t, list(api.Entry{Time: 199}), api.Zip, list(api.Entry{Time: 100}))
}

func TestCheckOfNoEntry(t *testing.T) { // P16.1
	wantCheck(t, nil, api.OK)
	wantCheck(t, list(), api.OK)
	wantCheck(t, make([]api.Entry, 0, 5), api.OK)
}

func TestCheckOfZeroEntries(t *testing.T) { // P16.1
	wantCheck(t, list(api.Entry{}), api.ErrTreeForm)
	wantCheck(t, list(api.Entry{}, api.Entry{}), api.ErrTreeForm)
	wantCheck(t, list(file("a"), api.Entry{}), api.ErrTreeForm)
	wantCheck(t, make([]api.Entry, api.MaxTree), api.ErrTreeForm)
	wantCheck(t, make([]api.Entry, api.MaxTree+1), api.ErrTreeOver)
}

func TestCheckOfManyEntries(t *testing.T) { // P16.1
	for _, n := range []int{1, 2, 998, 999, 1000} {
		wantCheck(t, many(n), api.OK)
	}
	for _, n := range []int{1001, 1002, 2000, 5000} {
		wantCheck(t, many(n), api.ErrTreeOver)
	}
}

// amiss are entries with which something is amiss wherever they stand, and the error.
var amiss = []struct {
	e   api.Entry
	err api.Errno
}{
	{file(""), api.ErrTreeForm}, {file("/a"), api.ErrTreeForm}, {file("z/"), api.ErrTreeForm}, {file("z/../a"), api.ErrTreeForm}, {file("z\xff"), api.ErrTreeForm},
	{ofKind(0, "z"), api.ErrTreeForm}, {ofKind(4, "z"), api.ErrTreeForm}, {withMode(file("z"), -1), api.ErrTreeForm}, {withMode(file("z"), 4096), api.ErrTreeForm},
	{withTarget(file("z"), "x"), api.ErrTreeForm}, {withTarget(folder("z"), "x"), api.ErrTreeForm}, {withData(folder("z"), "x"), api.ErrTreeForm}, {withData(link("z"), "x"), api.ErrTreeForm}, {withTarget(link("z"), ""), api.ErrTreeForm},
	{withData(file("z"), bigData), api.ErrTreeOver},
}

func TestCheckOfTooManyEntriesWithSomethingAmiss(t *testing.T) { // P16.1
	for _, x := range amiss {
		for _, at := range []int{0, 1, 500, 999, 1000} {
			l := many(1001)
			l[at] = x.e
			wantCheck(t, l, api.ErrTreeOver)
		}
		for _, at := range []int{0, 1, 500, 998, 999} {
			l := many(1000)
			l[at] = x.e
			wantCheck(t, l, x.err)
		}
	}
	for _, at := range []int{1, 500, 1000} {
		l := many(1001)
		l[at] = l[at-1] // twice
		wantCheck(t, l, api.ErrTreeOver)
		if at < 1000 {
			wantCheck(t, l[:1000], api.ErrTreeTwice)
		}
	}
}

func TestCheckOfPaths(t *testing.T) { // P16.1
	for _, kind := range kinds {
		for _, p := range rightPaths {
			wantCheckAlone(t, ofKind(kind, p), api.OK)
		}
		for _, p := range wrongPaths {
			wantCheckAlone(t, ofKind(kind, p), api.ErrTreeForm)
		}
	}
}

func TestCheckOfKinds(t *testing.T) { // P16.1
	for _, kind := range kinds {
		wantCheckAlone(t, ofKind(kind, "a"), api.OK)
	}
	for _, kind := range []int{0, 4, -1, -2, -3, 5, 6, 7, 257, 258, 1<<32 + 1, 1<<32 + 2, 1<<32 + 3, math.MinInt, math.MaxInt} {
		for _, e := range []api.Entry{file("a"), folder("a"), link("a"), withData(file("a"), "x")} {
			e.Kind = kind
			wantCheckAlone(t, e, api.ErrTreeForm)
		}
	}
}

func TestCheckOfModes(t *testing.T) { // P16.1
	for _, kind := range kinds {
		for _, mode := range []int{0, 1, 0644, 0755, 0777, 01000, 02000, 04000, 4094, 4095} {
			wantCheckAlone(t, withMode(ofKind(kind, "a"), mode), api.OK)
		}
		for _, mode := range []int{-1, -2, -4095, -4096, 4096, 4097, 8191, 65536, 1 << 32, 1<<32 + 1, math.MinInt, math.MaxInt} {
			wantCheckAlone(t, withMode(ofKind(kind, "a"), mode), api.ErrTreeForm)
		}
	}
}

func TestCheckOfTimes(t *testing.T) { // P16.1: of a Time nothing is amiss
	for _, kind := range kinds {
		for _, n := range edgeTimes {
			wantCheckAlone(t, withTime(ofKind(kind, "a"), n), api.OK)
		}
	}
}

func TestCheckOfTargets(t *testing.T) { // P16.1
	for _, target := range rightTargets {
		wantCheckAlone(t, withTarget(link("a"), target), api.OK)
		wantCheckAlone(t, withTarget(file("a"), target), api.ErrTreeForm)
		wantCheckAlone(t, withTarget(folder("a"), target), api.ErrTreeForm)
	}
	for _, target := range wrongTargets {
		wantCheckAlone(t, withTarget(link("a"), target), api.ErrTreeForm)
		if target != "" {
			wantCheckAlone(t, withTarget(file("a"), target), api.ErrTreeForm)
			wantCheckAlone(t, withTarget(folder("a"), target), api.ErrTreeForm)
		}
	}
}

func TestCheckOfData(t *testing.T) { // P16.1
	for _, data := range []string{"", "x", "\x00", "\xff", "text\n", bigData[:api.MaxData-1], bigData[:api.MaxData]} {
		wantCheckAlone(t, withData(file("a"), data), api.OK)
	}
	for _, data := range []string{bigData, bigData + "d", bigData + bigData} {
		wantCheckAlone(t, withData(file("a"), data), api.ErrTreeOver)
	}
	for _, data := range []string{"x", "\x00", bigData[:api.MaxData], bigData, bigData + "d"} {
		wantCheckAlone(t, withData(folder("a"), data), api.ErrTreeForm)
		wantCheckAlone(t, withData(link("a"), data), api.ErrTreeForm)
		wantCheckAlone(t, withTarget(withData(link("a"), data), ""), api.ErrTreeForm)
	}
}

func TestCheckOfMuchDataInAll(t *testing.T) { // P16.1: of all Data together nothing is said
	l := many(1000)
	for n := range l {
		l[n].Data = bigData[:api.MaxData]
	}
	wantCheck(t, l, api.OK)
	l[999].Data = bigData
	wantCheck(t, l, api.ErrTreeOver)
}

func TestCheckOfPathsBesideOneAnother(t *testing.T) { // P16.1
	rising := []string{"\x01", " ", "-", "A", "B", "Z", "a", "a ", "a-", "a.", "a0", "aa", "ab", "b", "z", "~", "\x7f", "\u0080", "é", "\u07ff", "\u0800", "\ud7ff", "\ue000", "\uffff", "\U00010000", "\U0010ffff"}
	for n, p := range rising {
		for m, q := range rising {
			want := api.OK
			if n == m {
				want = api.ErrTreeTwice
			} else if n > m {
				want = api.ErrTreeForm
			}
			for _, kind := range kinds {
				wantCheck(t, list(folder(p), ofKind(kind, q)), want)
				wantCheck(t, list(ofKind(kind, p), file(q)), want)
				wantCheck(t, list(folder("\x01"), ofKind(kind, "\x01\x01"), folder("\x02"+p), file("\x02"+q)), want)
			}
		}
	}
}

func TestCheckOfAPathThatStoodFurtherAhead(t *testing.T) { // P16.1: it is below the one ahead
	wantCheck(t, list(file("a"), file("b"), file("a")), api.ErrTreeForm)
	wantCheck(t, list(folder("a"), folder("b"), folder("a")), api.ErrTreeForm)
	wantCheck(t, list(file("a"), file("b"), file("b")), api.ErrTreeTwice)
	wantCheck(t, list(file("a"), file("a"), file("b")), api.ErrTreeTwice)
	wantCheck(t, list(file("a"), folder("a")), api.ErrTreeTwice)
	wantCheck(t, list(withMode(file("a"), 1), withMode(file("a"), 2)), api.ErrTreeTwice)
}

func TestCheckOfAPathAheadOfItsFolder(t *testing.T) { // P16.1
	for _, kind := range kinds {
		wantCheck(t, list(ofKind(kind, "a/b"), folder("a")), api.ErrTreeForm)
		wantCheck(t, list(ofKind(kind, "a/b")), api.OK) // its folder need not be there
		wantCheck(t, list(ofKind(kind, "a/b/c/d")), api.OK)
		wantCheck(t, list(folder("a"), ofKind(kind, "a/b/c/d")), api.OK)
	}
}

func TestCheckOfParents(t *testing.T) { // P16.1
	for _, kind := range kinds {
		want := api.ErrTreeForm
		if kind == api.Folder {
			want = api.OK
		}
		for _, last := range kinds {
			wantCheck(t, list(ofKind(kind, "a"), ofKind(last, "a/b")), want)
			wantCheck(t, list(ofKind(kind, "a"), ofKind(last, "a/b/c")), want)
			wantCheck(t, list(ofKind(kind, "a"), ofKind(last, "a/b/c/d/e")), want)
			wantCheck(t, list(ofKind(kind, "a"), file("a b"), folder("a-"), ofKind(last, "a/b")), want)
			wantCheck(t, list(ofKind(kind, "a"), file("a b"), folder("a-"), ofKind(last, "a/b/c")), want)
			wantCheck(t, list(folder("a"), ofKind(kind, "a/b"), ofKind(last, "a/b/c")), want)
			wantCheck(t, list(folder("a"), ofKind(kind, "a/b"), ofKind(last, "a/b-"), ofKind(last, "a/b/c/d")), want)
			wantCheck(t, list(folder("a"), file("a/a"), ofKind(kind, "a/b"), file("a/b "), file("a/b!"), file("a/b-"), ofKind(last, "a/b/c/d")), want)
			wantCheck(t, list(ofKind(kind, "a/b"), ofKind(last, "a/b/c")), want)
			wantCheck(t, list(ofKind(kind, "a/b/c"), ofKind(last, "a/b/c/d/e")), want)
		}
	}
}

func TestCheckOfWhatIsNoParent(t *testing.T) { // P16.1
	wantCheck(t, list(file("a"), file("aa/b")), api.OK)
	wantCheck(t, list(file("a"), file("a-/b")), api.OK)
	wantCheck(t, list(file("a"), file("a0/b")), api.OK)
	wantCheck(t, list(file("a"), file("b/a")), api.OK)
	wantCheck(t, list(file("a/b"), file("a/c")), api.OK)
	wantCheck(t, list(file("a/b"), file("a/bb/c")), api.OK)
	wantCheck(t, list(file("a/b"), file("b/c")), api.OK)
	wantCheck(t, list(link("a"), link("aa/b"), link("b/a/a")), api.OK)
	wantCheck(t, list(folder("a"), file("a/b"), file("a/c"), folder("a/d"), link("a/d/e")), api.OK)
}

// The parent stands in each place of many, and far ahead.
func TestCheckOfAParentAmongMany(t *testing.T) { // P16.1
	for at := range 200 {
		l := append(many(200), file("x"))
		l[200].Path = l[at].Path + "/x"
		wantCheck(t, slowSort(l), api.ErrTreeForm)
		l[at].Kind = api.Folder
		wantCheck(t, slowSort(l), api.OK)
	}
	for at := range 100 {
		l := list(ofKind(api.Link, "a"))
		for n := range at {
			l = append(l, file("a-"+number(n)))
		}
		wantCheck(t, append(l, file("a/b")), api.ErrTreeForm)
	}
}

func TestCheckOfManyParts(t *testing.T) { // P16.1
	deep := strings.Repeat("a/", 99) + "a"
	for _, kind := range kinds {
		for n := 1; n < len(deep); n += 2 {
			want := api.ErrTreeForm
			if kind == api.Folder {
				want = api.OK
			}
			wantCheck(t, list(ofKind(kind, deep[:n]), file(deep)), want)
		}
	}
	var l []api.Entry
	for n := 1; n < len(deep); n += 2 {
		l = append(l, folder(deep[:n]))
	}
	wantCheck(t, append(l, file(deep)), api.OK)
	for n := range l {
		l[n].Kind = api.File
		wantCheck(t, append(l[:len(l):len(l)], file(deep)), api.ErrTreeForm)
		l[n].Kind = api.Folder
	}
}

func TestCheckOfTwoThingsAmissWithOneEntry(t *testing.T) { // P16.1
	over := withData(file("b"), bigData)
	for _, path := range wrongPaths {
		wantCheck(t, list(withData(file(path), bigData)), api.ErrTreeForm)
	}
	wantCheck(t, list(withMode(over, 4096)), api.ErrTreeForm)
	wantCheck(t, list(withMode(over, -1)), api.ErrTreeForm)
	wantCheck(t, list(withTarget(over, "x")), api.ErrTreeForm)
	for _, kind := range []int{0, 2, 3, 4} {
		e := over
		e.Kind = kind
		wantCheck(t, list(e), api.ErrTreeForm)
	}
	wantCheck(t, list(file("b"), over), api.ErrTreeOver)            // twice
	wantCheck(t, list(file("c"), over), api.ErrTreeOver)            // below
	wantCheck(t, list(file("a"), file("b"), over), api.ErrTreeOver) // twice
	over.Path = "b/c"
	wantCheck(t, list(file("b"), over), api.ErrTreeOver)             // in a File
	wantCheck(t, list(file("b"), file("b-"), over), api.ErrTreeOver) // in one further ahead
	wantCheck(t, list(file("b"), file("c"), over), api.ErrTreeOver)  // and below
	for _, x := range amiss {
		if x.err == api.ErrTreeForm {
			wantCheck(t, list(file(x.e.Path), x.e), api.ErrTreeForm)
			wantCheck(t, list(file("z"), x.e), api.ErrTreeForm) // twice, or below
			wantCheck(t, list(file("zz"), x.e), api.ErrTreeForm)
			wantCheck(t, list(withData(x.e, bigData)), api.ErrTreeForm)
		}
	}
}

func TestCheckOfTwoEntriesThatAreAmiss(t *testing.T) { // P16.1: the first one's is told
	for _, x := range amiss {
		for _, y := range amiss {
			wantCheck(t, list(x.e, y.e), x.err)
			wantCheck(t, list(file("a"), x.e, y.e), x.err)
			wantCheck(t, list(file("a"), x.e, file("zz"), file("zzz"), y.e), x.err)
		}
		wantCheck(t, list(x.e, file("a"), file("a")), x.err)
		wantCheck(t, list(file("a"), file("a"), x.e), api.ErrTreeTwice)
		wantCheck(t, list(file("b"), file("a"), x.e), api.ErrTreeForm)
		wantCheck(t, list(file("a"), file("a/b"), x.e), api.ErrTreeForm)
		wantCheck(t, list(folder("a"), file("a/b"), x.e), x.err)
	}
	wantCheck(t, list(file("a"), file("a"), file("a/b")), api.ErrTreeTwice)
	wantCheck(t, list(file("a"), file("a/b"), file("a/b")), api.ErrTreeForm)
	wantCheck(t, list(file("b"), file("b"), file("a")), api.ErrTreeTwice)
	wantCheck(t, list(file("b"), file("a"), file("a")), api.ErrTreeForm)
}

// All lists of up to four entries of few Paths, of all kinds.
func TestCheckOfEachShortList(t *testing.T) { // P16.1
	var all []api.Entry
	for _, p := range []string{"a", "a-", "a/b", "a/b-", "a/b/c", "b", "a//b"} {
		for _, kind := range kinds {
			all = append(all, ofKind(kind, p))
		}
	}
	var longer func(l []api.Entry, room int)
	longer = func(l []api.Entry, room int) {
		wantCheckAsModel(t, l)
		if room == 0 || t.Failed() {
			return
		}
		for _, e := range all {
			longer(append(l[:len(l):len(l)], e), room-1)
		}
	}
	longer(nil, 4)
}

// chancePath has few parts, so that Paths come again and lie in one another.
func chancePath(r *rand.Rand) string {
	if r.Intn(60) == 0 {
		return wrongPaths[r.Intn(len(wrongPaths))]
	}
	parts := []string{"a", "b", "a-", "a0", "é", "..."}
	p := parts[r.Intn(len(parts))]
	for r.Intn(3) == 0 {
		p += "/" + parts[r.Intn(len(parts))]
	}
	return p
}

func chanceTime(r *rand.Rand) int64 {
	if r.Intn(3) == 0 {
		return edgeTimes[r.Intn(len(edgeTimes))]
	}
	return int64(r.Uint64()) >> r.Intn(60)
}

func chanceEntry(r *rand.Rand) api.Entry {
	e := withTime(withMode(ofKind(1+r.Intn(3), chancePath(r)), r.Intn(4096)), chanceTime(r))
	if r.Intn(3) > 0 {
		e.Kind, e.Target = api.Folder, ""
	}
	if e.Kind == api.File {
		e.Data = bigData[:r.Intn(10)]
	}
	switch r.Intn(100) {
	case 0:
		e.Target = wrongTargets[r.Intn(len(wrongTargets))]
	case 1:
		e.Data = bigData[:r.Intn(3)]
	case 2:
		e.Mode = r.Intn(3)*4096 - 1
	case 3:
		e.Kind = r.Intn(5)
	case 4:
		e.Data = bigData[r.Intn(2):]
	}
	return e
}

func chanceList(r *rand.Rand, most int) []api.Entry {
	var l []api.Entry
	for range r.Intn(most + 1) {
		l = append(l, chanceEntry(r))
	}
	return l
}

// withoutTwice leaves of one Path the first entry alone, so that more of what is left are trees.
func withoutTwice(sorted []api.Entry) []api.Entry {
	return slices.CompactFunc(append([]api.Entry{}, sorted...), func(a, b api.Entry) bool { return a.Path == b.Path })
}

func TestCheckOfChance(t *testing.T) { // P16.1
	r := rand.New(rand.NewSource(161))
	told := map[api.Errno]int{}
	for range 60000 {
		l := chanceList(r, 12)
		wantCheckAsModel(t, l)
		l = slowSort(l)
		wantCheckAsModel(t, l)
		l = withoutTwice(l)
		wantCheckAsModel(t, l)
		told[slowCheck(l)]++
	}
	if told[api.OK] < 10000 || told[api.ErrTreeForm] < 10000 || told[api.ErrTreeOver] < 100 {
		t.Errorf("lists of too few sorts: %v", told)
	}
}

func TestSortAtItsEdges(t *testing.T) { // P16.2, P16.5
	a, b, c := file("a"), folder("b"), link("c")
	wantSort(t, nil, nil)
	wantSort(t, list(), nil)
	wantSort(t, list(a), list(a))
	wantSort(t, list(api.Entry{}), list(api.Entry{}))
	wantSort(t, list(a, b), list(a, b))
	wantSort(t, list(b, a), list(a, b))
	wantSort(t, list(a, b, c), list(a, b, c))
	wantSort(t, list(c, b, a), list(a, b, c))
	wantSort(t, list(b, c, a), list(a, b, c))
	wantSort(t, list(c, a, b), list(a, b, c))
	x, y, z := withData(a, "x"), withData(a, "y"), withData(a, "z")
	wantSort(t, list(x, y), list(x, y))
	wantSort(t, list(y, x), list(y, x))
	wantSort(t, list(z, x, y), list(z, x, y))
	wantSort(t, list(b, z, c, x, b, y), list(z, x, y, b, b, c))
}

func TestSortIsByPathAlone(t *testing.T) { // P16.2
	a := withTime(withMode(withData(api.Entry{Kind: 3, Path: "a", Target: "z"}, "z"), 9), 9)
	b := withTime(withMode(api.Entry{Kind: 1, Path: "b"}, -9), -9)
	wantSort(t, list(b, a), list(a, b))
	a.Path, b.Path = "", ""
	wantSort(t, list(a, b), list(a, b))
	wantSort(t, list(b, a), list(b, a))
}

func TestSortIsByteByByte(t *testing.T) { // P16.2
	rising := list(file(""), file("\x00"), file("A"), file("B"), file("a"), file("a\x00"), file("a "), file("a-"), file("a/"), file("a//b"), file("a/b"), file("a0"), file("aa"), file("é"), file("\u20ac"), file("\ue000"), file("\U00010000"), file("\xff"))
	falling := append([]api.Entry{}, rising...)
	slices.Reverse(falling)
	wantSort(t, rising, rising)
	wantSort(t, falling, rising)
}

func TestSortOfManyEntries(t *testing.T) { // P16.2: of one Path they keep their order, however many they are
	for _, paths := range []int{1, 2, 3, 50, 1000, 5000} {
		var l []api.Entry
		for n := range 5000 {
			l = append(l, withMode(file(number(n*7919%paths)), n))
		}
		s := tree.Sort(l)
		if len(s) != len(l) {
			t.Fatalf("P16.2: Sort of %d: %d", len(l), len(s))
		}
		seen := make([]bool, len(l))
		for n, e := range s {
			if e != l[e.Mode] || seen[e.Mode] {
				t.Fatalf("P16.2: Sort of %d entries with %d Paths tells %s twice, or anew", len(l), paths, short(s[n:n+1]))
			}
			seen[e.Mode] = true
			if n > 0 && (s[n-1].Path > e.Path || s[n-1].Path == e.Path && s[n-1].Mode > e.Mode) {
				t.Fatalf("P16.2: Sort of %d entries with %d Paths: %s", len(l), paths, short(s[n-1:n+1]))
			}
		}
	}
}

func TestSortOfChance(t *testing.T) { // P16.2, P16.5
	r := rand.New(rand.NewSource(162))
	for range 5000 {
		l := chanceList(r, 60)
		wantSort(t, l, slowSort(l))
	}
}

func TestSortTellsMemoryOfItsOwn(t *testing.T) { // P16.2, R6
	given := list(file("a"), file("b"), file("c"))
	still := kept(t, given)
	one, two := tree.Sort(given), tree.Sort(given)
	for n := range one {
		one[n] = folder("z")
	}
	_ = append(one, folder("y"))
	still()
	if !slowSame(two, given) {
		t.Errorf("R6: what Sort told before has changed: %s", short(two))
	}
	given[0] = link("q")
	if two[0] != file("a") {
		t.Errorf("R6: what Sort told changes with what it was given: %s", short(two))
	}
}

func TestFind(t *testing.T) { // P16.2
	one, two := withData(file("b"), "one"), withData(file("b"), "two")
	l := list(link("c"), one, folder("a"), two, file("a/b"))
	wantFind(t, l, "a", folder("a"))
	wantFind(t, l, "a/b", file("a/b"))
	wantFind(t, l, "c", link("c"))
	wantFind(t, l, "b", one)
	wantFind(t, list(two, one), "b", two)
	wantFind(t, list(api.Entry{Mode: 7}), "", api.Entry{Mode: 7})
	wantFind(t, list(file("a"), api.Entry{}), "", api.Entry{})
	wantFind(t, list(file("\xff"), file("/..//\x00")), "/..//\x00", file("/..//\x00"))
	for _, path := range []string{"", "d", "A", "a/", "/a", "a//b", "a/b/c", "b/", "bb", "x"} {
		wantNoFind(t, l, path)
	}
	wantNoFind(t, nil, "")
	wantNoFind(t, nil, "a")
	wantNoFind(t, list(), "a")
	wantNoFind(t, list(withData(withTarget(file("b"), "a"), "a")), "a")
}

func TestFindOfChance(t *testing.T) { // P16.2
	r := rand.New(rand.NewSource(163))
	for range 20000 {
		l := chanceList(r, 20)
		path := chancePath(r)
		if want, is := slowFind(l, path); is {
			wantFind(t, l, path, want)
		} else {
			wantNoFind(t, l, path)
		}
	}
}

func TestSize(t *testing.T) { // P16.2
	wantSize(t, nil, 0)
	wantSize(t, list(), 0)
	wantSize(t, list(api.Entry{}), 0)
	wantSize(t, list(file("a"), folder("b"), link("c")), 0) // Paths and Targets are no Data
	wantSize(t, list(withData(file("a"), "x")), 1)
	wantSize(t, list(withData(file("a"), "\x00\xff\n")), 3)
	wantSize(t, list(withData(file("a"), "xyz"), file("b"), withData(file("c"), "12345")), 8)
	wantSize(t, list(withData(file("a"), "é")), 2)
	wantSize(t, list(withData(file("a"), "xy"), withData(file("a"), "xy")), 4)                                // of one Path both
	wantSize(t, list(withData(folder("a"), "xy"), withData(link("b"), "z"), withData(ofKind(9, ""), "w")), 4) // whatever list it is
	wantSize(t, list(withData(file("a"), bigData), withData(file("b"), bigData)), 2*api.MaxData+2)
	l := many(1000)
	for n := range l {
		l[n].Data = bigData[:api.MaxData]
	}
	wantSize(t, l, 1000<<20)
	r := rand.New(rand.NewSource(164))
	for range 2000 {
		l := chanceList(r, 20)
		wantSize(t, l, slowSize(l))
	}
}

func TestSame(t *testing.T) { // P16.2
	wantSame(t, nil, nil, true)
	wantSame(t, nil, list(), true) // an empty list is as good as none
	wantSame(t, list(), list(), true)
	a, b := file("a"), link("b")
	wantSame(t, nil, list(a), false)
	wantSame(t, list(), list(api.Entry{}), false)
	wantSame(t, list(a), list(a), true)
	wantSame(t, list(a), list(b), false)
	wantSame(t, list(a, b), list(a, b), true)
	wantSame(t, list(a, b), list(b, a), false)
	wantSame(t, list(a), list(a, a), false)
	wantSame(t, list(a, b), list(a), false)
	wantSame(t, list(a, b), list(b), false)
	wantSame(t, list(api.Entry{}), list(api.Entry{}), true)
	wantSame(t, list(withData(a, string([]byte{'x', 0}))), list(withData(a, "x\x00")), true)
	same := list(a, b)
	wantSame(t, same, same, true)
	wantSame(t, same, same[:1], false)
}

// changes are each of one field of an entry.
var changes = []struct {
	name   string
	change func(e *api.Entry)
}{
	{"Kind", func(e *api.Entry) { e.Kind++ }},
	{"Path", func(e *api.Entry) { e.Path += "x" }},
	{"Target", func(e *api.Entry) { e.Target += "x" }},
	{"Mode", func(e *api.Entry) { e.Mode++ }},
	{"Time", func(e *api.Entry) { e.Time++ }},
	{"Data", func(e *api.Entry) { e.Data += "x" }},
	{"first byte of Data", func(e *api.Entry) { e.Data = "\x00" + e.Data }},
	{"high bits of Mode", func(e *api.Entry) { e.Mode ^= 1 << 40 }},
	{"sign of Time", func(e *api.Entry) { e.Time ^= math.MinInt64 }},
}

func TestSameInEachField(t *testing.T) { // P16.2
	l := list(api.Entry{Kind: 1, Path: "a", Target: "b", Mode: 2, Time: 3, Data: "c"}, api.Entry{}, link("z"), withData(file("y"), "text"))
	for _, x := range changes {
		for n := range l {
			other := append([]api.Entry{}, l...)
			x.change(&other[n])
			wantSame(t, l, other, false)
			x.change(&l[n])
			wantSame(t, l, other, true)
		}
	}
}

func TestSameOfChance(t *testing.T) { // P16.2
	r := rand.New(rand.NewSource(165))
	for range 20000 {
		a := chanceList(r, 4)
		b := append([]api.Entry{}, a...)
		wantSame(t, a, b, true)
		if len(b) > 0 && r.Intn(2) == 0 {
			changes[r.Intn(len(changes))].change(&b[r.Intn(len(b))])
		}
		if r.Intn(3) == 0 {
			b = chanceList(r, 4)
		}
		wantSame(t, a, b, slowSame(a, b))
	}
}

func TestCanOfFormats(t *testing.T) { // P16.3
	for _, format := range formats {
		is := format == api.Zip || format == api.TarGz || format == api.Solid
		wantCan(t, nil, format, is)
		wantCan(t, list(), format, is)
		wantCan(t, list(folder("a"), file("a/b"), link("a/c")), format, is)
		wantCan(t, many(api.MaxTree), format, is)
	}
}

func TestCanOfWhatIsNoTree(t *testing.T) { // P16.3
	for _, format := range formats {
		for _, x := range amiss {
			wantCan(t, list(x.e), format, false)
			wantCan(t, list(file("a"), x.e), format, false)
		}
		wantCan(t, many(api.MaxTree+1), format, false)
		wantCan(t, list(file("a"), file("a")), format, false)
		wantCan(t, list(file("b"), file("a")), format, false)
		wantCan(t, list(file("a"), file("a/b")), format, false)
	}
}

func TestCanOfTimesAtTheirEdges(t *testing.T) { // P16.3
	for _, x := range []struct {
		at       int64
		tar, zip bool
	}{
		{leastTime, false, false}, {leastTime + 1, false, false}, {leastTime + 7, false, false}, {leastTime + 8, false, true}, {leastTime + 9, false, true},
		{leastTar - 1000000000, false, true}, {leastTar - 1, false, true}, {leastTar, true, true}, {leastTar + 1, true, true},
		{-1, true, true}, {0, true, true}, {1, true, true},
		{mostTar - 1, true, true}, {mostTar, true, true}, {mostTar + 1, false, true}, {mostTar + 999999999, false, true},
		{mostTime - 7, false, true}, {mostTime - 1, false, true}, {mostTime, false, true},
	} {
		for _, kind := range kinds {
			e := withTime(ofKind(kind, "m"), x.at)
			for _, l := range [][]api.Entry{list(e), list(file("a"), e), list(e, file("z")), list(folder("a"), e, file("z"))} {
				wantCan(t, l, api.Zip, x.zip)
				wantCan(t, l, api.TarGz, x.tar)
				wantCan(t, l, api.Solid, true)
				wantCan(t, l, 0, false)
				wantCan(t, l, 4, false)
			}
		}
	}
}

func TestCanOfEachTimeBesideTheEdges(t *testing.T) { // P16.3
	for _, edge := range []int64{leastZip, leastTar, 0, mostTar} {
		for n := edge - 8; n <= edge+300; n++ {
			for _, format := range formats {
				wantCan(t, list(timed(n)), format, slowCan(list(timed(n)), format))
			}
		}
	}
}

// Which one of many has the Time that no format but Solid can hold does not matter.
func TestCanOfOneTimeAmongMany(t *testing.T) { // P16.3
	for at := range 100 {
		l := many(100)
		l[at].Time = leastTime
		wantCan(t, l, api.Zip, false)
		wantCan(t, l, api.TarGz, false)
		wantCan(t, l, api.Solid, true)
		l[at].Time = mostTime
		wantCan(t, l, api.Zip, true)
		wantCan(t, l, api.TarGz, false)
	}
}

func TestCanOfChance(t *testing.T) { // P16.3, P16.5
	r := rand.New(rand.NewSource(166))
	told := map[bool]int{}
	for range 30000 {
		l := withoutTwice(slowSort(chanceList(r, 4)))
		for _, format := range []int{api.Zip, api.TarGz, api.Solid, r.Intn(9) - 3} {
			want := slowCan(l, format)
			wantCan(t, l, format, want)
			told[want]++
		}
	}
	if told[true] < 20000 || told[false] < 20000 {
		t.Errorf("lists of too few sorts: %v", told)
	}
}

func TestProjectOfTimesAtTheirEdges(t *testing.T) { // P16.4, P16.5
	for _, x := range []struct{ at, want int64 }{
		{0, 0}, {1, 0}, {99, 0}, {100, 100}, {101, 100}, {199, 100}, {200, 200}, {951868800000000099, 951868800000000000},
		{-1, -100}, {-99, -100}, {-100, -100}, {-101, -200}, {-199, -200}, {-200, -200}, {-201, -300},
		{mostTime, mostTime - 7}, {mostTime - 7, mostTime - 7}, {mostTime - 8, mostTime - 107},
		{leastTime + 8, leastTime + 8}, {leastTime + 9, leastTime + 8}, {leastTime + 107, leastTime + 8}, {leastTime + 108, leastTime + 108},
		{leastTime, leastTime}, {leastTime + 1, leastTime + 1}, {leastTime + 7, leastTime + 7}, // the multiple is no int64
	} {
		for _, format := range formats {
			want := x.at
			if format == api.Zip {
				want = x.want
			}
			wantProject(t, list(timed(x.at)), format, list(timed(want)))
			wantProject(t, list(timed(7), timed(x.at), timed(100)), format, slowProject(list(timed(7), timed(want), timed(100)), format))
		}
	}
}

func TestProjectKeepsAllElse(t *testing.T) { // P16.4
	e := api.Entry{Kind: 3, Path: "p/q", Target: "t", Mode: 4095, Time: -1, Data: "d"}
	for _, format := range formats {
		wantProject(t, nil, format, nil)
		wantProject(t, list(), format, nil)
		wantProject(t, list(api.Entry{}), format, list(api.Entry{}))
		want := e
		if format == api.Zip {
			want.Time = -100
		}
		wantProject(t, list(e), format, list(want))
		wantProject(t, list(e, file("b"), e, file("a"), file("a")), format, list(want, file("b"), want, file("a"), file("a"))) // a list that is no tree too, in its order
		wantProject(t, list(ofKind(-7, "/..//\x00\xff")), format, list(ofKind(-7, "/..//\x00\xff")))
		wantProject(t, many(api.MaxTree+5), format, many(api.MaxTree+5))
	}
}

func TestProjectOfEachTimeBesideTheEdges(t *testing.T) { // P16.4, P16.5
	for _, edge := range []int64{leastTime + 8, leastTar, 0, mostTar} {
		for n := edge - 8; n <= edge+300; n++ {
			for _, format := range []int{api.Zip, api.TarGz, api.Solid, 0} {
				wantProject(t, list(timed(n)), format, slowProject(list(timed(n)), format))
			}
		}
	}
}

func TestProjectOfChance(t *testing.T) { // P16.4, P16.5
	r := rand.New(rand.NewSource(167))
	for range 20000 {
		l := chanceList(r, 6)
		if r.Intn(3) > 0 {
			l = withoutTwice(slowSort(l))
		}
		format := formats[r.Intn(len(formats))]
		if r.Intn(2) == 0 {
			format = api.Zip
		}
		wantProject(t, l, format, slowProject(l, format))
	}
}

func TestProjectTellsMemoryOfItsOwn(t *testing.T) { // P16.4, R6
	for _, format := range formats {
		given := list(timed(200), withTime(file("b"), 300), file("c"))
		still := kept(t, given)
		one, two := tree.Project(given, format), tree.Project(given, format)
		for n := range one {
			one[n] = folder("z")
		}
		_ = append(one, folder("y"))
		still()
		if !slowSame(two, given) {
			t.Errorf("R6: what Project to %d told before has changed: %s", format, short(two))
		}
		given[0] = link("q")
		if two[0] != timed(200) {
			t.Errorf("R6: what Project to %d told changes with what it was given: %s", format, short(two))
		}
	}
}

// The memory that a list leaves room for is not the caller's to be written into.
func TestRoomBehindAListStaysAsItWas(t *testing.T) { // R5, R6
	whole := list(file("b"), timed(199), file("y"), file("z"))
	still := kept(t, whole)
	part := whole[:2]
	tree.Check(part)
	_ = append(tree.Sort(part), folder("x"))
	_ = append(tree.Project(part, api.Zip), folder("x"))
	_ = append(tree.Project(part, api.Solid), folder("x"))
	tree.Can(part, api.Zip)
	tree.Find(part, "y")
	tree.Size(part)
	tree.Same(part, whole)
	still()
}

func TestWhatFollowsOfTrees(t *testing.T) { // P16.5
	for _, format := range formats {
		for _, n := range edgeTimes {
			for _, m := range edgeTimes {
				l := list(withTime(folder("a"), n), withTime(file("a/b"), m))
				wantWhatFollows(t, l, format, tree.Project(l, format))
			}
		}
	}
}

// Each entry is long in each of its texts, and has as many parents as there may be.
func TestCheckOfTheGreatestTree(t *testing.T) { // P16.1, R1
	var l []api.Entry
	for n := range api.MaxTree {
		l = append(l, withTarget(link(strings.Repeat("a/", 97)+number(n)), strings.Repeat("x", api.MaxLink)))
	}
	wantCheck(t, l, api.OK)
	for _, format := range formats[:3] {
		wantCan(t, l, format, true)
		wantProject(t, l, format, l)
	}
	l[999].Target += "x"
	wantCheck(t, l, api.ErrTreeForm)
}

func TestSameCallsTellTheSame(t *testing.T) { // R7
	r := rand.New(rand.NewSource(168))
	for range 300 {
		l := chanceList(r, 30)
		for range 3 {
			wantCheck(t, l, slowCheck(l))
			wantSort(t, l, slowSort(l))
			wantProject(t, l, api.Zip, slowProject(l, api.Zip))
		}
	}
}
