package names_test

import (
	"math/rand"
	"slices"
	"strings"
	"testing"

	"wainload/api"
	"wainload/names"
)

// notValid are texts that are no UTF-8, or not as it should be written; each is wrong on its own, whatever stands ahead of it or behind it.
var notValid = []string{
	"\x80", "\x8f", "\x90", "\x9f", "\xa0", "\xbf", // alone
	"\xc0", "\xc1", "\xf5", "\xf8", "\xfc", "\xfe", "\xff", // begin no letter
	"\xc0\x80", "\xc0\xaf", "\xc1\xbf", // longer than need be
	"\xe0\x80\x80", "\xe0\x80\xaf", "\xe0\x81\xbf", "\xe0\x82\x80", "\xe0\x9f\xbf",
	"\xf0\x80\x80\x80", "\xf0\x80\x80\xaf", "\xf0\x80\x82\x80", "\xf0\x80\xa0\x80", "\xf0\x8f\xbf\xbf", "\xf0\x8f\xbf\xbd",
	"\xed\xa0\x80", "\xed\xaf\xbf", "\xed\xb0\x80", "\xed\xbf\xbf", "\xed\xa0\xbd\xed\xb8\x80", // surrogates
	"\xf4\x90\x80\x80", "\xf4\xbf\xbf\xbf", "\xf5\x80\x80\x80", "\xf7\xbf\xbf\xbf", // above 10ffff
	"\xf8\x88\x80\x80\x80", "\xf8\x80\x80\x80\xaf", "\xfc\x84\x80\x80\x80\x80", "\xfd\xbf\xbf\xbf\xbf\xbf", "\xfc\x80\x80\x80\x80\xaf",
	"\xef\xbf\xbd\xbd", "\xef\xbf\xbd\x80", "\xc3\xa9\xa9", "\xf0\x9f\x98\x80\x80", // a byte too many
}

// cutOff are letters of which the last bytes are missing: wrong, unless what stands behind goes on with them.
var cutOff = []string{"\xc2", "\xc3", "\xdf", "\xe0", "\xe0\xa0", "\xe2", "\xe2\x82", "\xed", "\xed\x9f", "\xef", "\xef\xbf", "\xf0", "\xf0\x90", "\xf0\x9f\x98", "\xf4", "\xf4\x8f", "\xf4\x8f\xbf"}

// someLetters are of 1, 2, 3 and 4 bytes, at both ends of what each may hold, and beside what none may hold.
var someLetters = []int{0, 1, '.', '/', 'a', 0x7f, 0x80, 0xe9, 0x7ff, 0x800, 0x20a7, 0xd7ff, 0xe000, 0xfffc, 0xfffd, 0xfffe, 0xffff, 0x10000, 0x1f600, 0x10fffe, 0x10ffff}

// noLetters are surrogates, and what lies above the last letter.
var noLetters = []int{0xd800, 0xd801, 0xdbff, 0xdc00, 0xdffe, 0xdfff, 0x110000, 0x110001, 0x13ffff, 0x140000, 0x1fffff, 0x200000, 0x3ffffff, 0x4000000, 1<<31 - 1}

// eachText calls f with each text of at most so many pieces.
func eachText(pieces []string, most int, f func(string)) {
	var longer func(s string, room int)
	longer = func(s string, room int) {
		f(s)
		if room == 0 {
			return
		}
		for _, p := range pieces {
			longer(s+p, room-1)
		}
	}
	longer("", most)
}

func chanceText(r *rand.Rand, pieces []string, most int) string {
	var s strings.Builder
	for range r.Intn(most + 1) {
		s.WriteString(pieces[r.Intn(len(pieces))])
	}
	return s.String()
}

func wantValid(t *testing.T, s string, want bool) {
	t.Helper()
	if names.Valid(s) != want {
		t.Fatalf("P14.1: Valid(%x) is not %v", s, want)
	}
}

func wantClean(t *testing.T, path, want string) {
	t.Helper()
	if got, err := names.Clean(path); got != want || err != api.OK {
		t.Errorf("P14.2: Clean(%q): %q, %d; want %q", path, got, err, want)
	}
	if got, err := names.Clean(want); got != want || err != api.OK {
		t.Errorf("P14.5: Clean(%q), which Clean told: %q, %d", want, got, err)
	}
}

// wantNoClean also asks that no path is told.
func wantNoClean(t *testing.T, path string) {
	t.Helper()
	if got, err := names.Clean(path); got != "" || err != api.ErrNameForm {
		t.Errorf("P14.2: Clean(%q): %q, %d; want ErrNameForm", path, got, err)
	}
}

func wantCleanAsModel(t *testing.T, path string) {
	t.Helper()
	want, err := slowClean(path)
	if err != api.OK {
		wantNoClean(t, path)
		return
	}
	wantClean(t, path, want)
}

func wantParents(t *testing.T, path string, want ...string) {
	t.Helper()
	if got := names.Parents(path); !slices.Equal(got, want) {
		t.Errorf("P14.3: Parents(%q): %q; want %q", path, got, want)
	}
}

func wantFromOem(t *testing.T, b, want string) {
	t.Helper()
	if got := names.FromOem(b); got != want {
		t.Errorf("P14.4: FromOem(%x): %q; want %q", b, got, want)
	}
	if got, is := names.ToOem(want); got != b || !is {
		t.Errorf("P14.5: ToOem(FromOem(%x)): %x, %v", b, got, is)
	}
}

func wantToOem(t *testing.T, s, want string) {
	t.Helper()
	if got, is := names.ToOem(s); got != want || !is {
		t.Errorf("P14.4: ToOem(%q): %x, %v; want %x", s, got, is, want)
	}
	if got := names.FromOem(want); got != s {
		t.Errorf("P14.5: FromOem(%x), which ToOem told: %q; want %q", want, got, s)
	}
}

// wantNoOem also asks that no byte is told.
func wantNoOem(t *testing.T, s string) {
	t.Helper()
	if got, is := names.ToOem(s); got != "" || is {
		t.Errorf("P14.4: ToOem(%q): %x, %v; want nothing and false", s, got, is)
	}
}

func wantToOemAsModel(t *testing.T, s string) {
	t.Helper()
	want, is := slowToOem(s)
	if !is {
		wantNoOem(t, s)
		return
	}
	wantToOem(t, s, want)
}

func TestError(t *testing.T) {
	if api.ErrNameForm != 140 || api.MaxPath != 200 {
		t.Error("the error or the limit has another number than the document's")
	}
}

func TestValidOfTexts(t *testing.T) { // P14.1
	for _, s := range []string{"", "a", "a/b", "\x00", "a\x00b", "\x7f", "é", "₧", "\U0001f600", "aé₧\U0001f600a", "\ufffd", "\ufffd\ufffd", "a\ufffd", "\ufffda", strings.Repeat("é", 100000)} {
		wantValid(t, s, true)
	}
}

func TestValidOfEdges(t *testing.T) { // P14.1
	for _, s := range []string{
		"\x00", "\x7f", "\xc2\x80", "\xdf\xbf", "\xe0\xa0\x80", "\xef\xbf\xbf", "\xf0\x90\x80\x80", "\xf4\x8f\xbf\xbf",
		"\xed\x9f\xbf", "\xee\x80\x80", "\xef\xbf\xbc", "\xef\xbf\xbd", "\xef\xbf\xbe",
	} {
		for _, around := range []string{"", "a", "é", "\ufffd"} {
			wantValid(t, around+s, true)
			wantValid(t, s+around, true)
			wantValid(t, around+s+around, true)
		}
	}
	for _, s := range []string{"\xed\xa0\x80", "\xed\xbf\xbf", "\xf4\x90\x80\x80"} { // d800, dfff, 110000
		wantValid(t, s, false)
	}
}

func TestValidOfWrongTexts(t *testing.T) { // P14.1
	for _, s := range notValid {
		for _, around := range []string{"", "a", "/", "\x00", "é", "₧", "\ufffd", "\U0001f600"} {
			wantValid(t, s, false)
			wantValid(t, around+s, false)
			wantValid(t, s+around, false)
			wantValid(t, around+s+around, false)
		}
		wantValid(t, strings.Repeat("a", 100000)+s, false)
		wantValid(t, s+strings.Repeat("a", 100000), false)
	}
}

func TestValidOfLettersCutOff(t *testing.T) { // P14.1
	for _, s := range cutOff {
		wantValid(t, s, false)
		wantValid(t, "a"+s, false)
		for _, letter := range someLetters { // cuts it in its midst
			wantValid(t, s+spelt(letter, shortest(letter)), false)
			wantValid(t, "\ufffd"+s+spelt(letter, shortest(letter))+"a", false)
		}
		for _, other := range cutOff {
			wantValid(t, s+other, false)
		}
	}
	for _, letter := range someLetters {
		s := spelt(letter, shortest(letter))
		for long := 1; long < len(s); long++ {
			wantValid(t, s[:long], false)
			wantValid(t, s[:long]+s, false)
			wantValid(t, s+s[:long], false)
			wantValid(t, s[long:], false)
			wantValid(t, s+s[long:], false)
		}
	}
}

func TestValidOfLoneBytes(t *testing.T) { // P14.1
	for n := range 256 {
		b := string([]byte{byte(n)})
		wantValid(t, b, n < 0x80)
		if n >= 0x80 && n < 0xc0 {
			for _, s := range []string{"a" + b, b + "a", "a" + b + "a", "é" + b, b + "é", "\ufffd" + b, b + "\ufffd", b + b} {
				wantValid(t, s, false)
			}
		}
	}
}

func TestValidOfEachLetterInEachLength(t *testing.T) { // P14.1
	for letter := range 0x120000 {
		need := shortest(letter)
		for long := need; long <= 6; long++ {
			if long == 1 && letter >= 0x80 {
				continue
			}
			wantValid(t, spelt(letter, long), long == need && isLetter(letter))
		}
	}
	for _, letter := range noLetters {
		for long := shortest(letter); long <= 6; long++ {
			wantValid(t, spelt(letter, long), false)
			wantValid(t, "a"+spelt(letter, long)+"a", false)
		}
	}
}

func TestValidOfShortBytes(t *testing.T) { // P14.1
	for n := range 1 << 24 {
		s := string([]byte{byte(n >> 16), byte(n >> 8), byte(n)})
		if names.Valid(s) != slowValid(s) {
			t.Fatalf("P14.1: Valid(%x) is not %v", s, slowValid(s))
		}
	}
	var edges []string
	for _, x := range []byte{0, 0x2f, 0x7f, 0x80, 0x81, 0x8f, 0x90, 0x9f, 0xa0, 0xbc, 0xbd, 0xbe, 0xbf, 0xc0, 0xc1, 0xc2, 0xdf, 0xe0, 0xe1, 0xec, 0xed, 0xee, 0xef, 0xf0, 0xf1, 0xf3, 0xf4, 0xf5, 0xf7, 0xf8, 0xff} {
		edges = append(edges, string([]byte{x}))
	}
	eachText(edges, 4, func(s string) { wantValid(t, s, slowValid(s)) })
}

func TestValidOfChance(t *testing.T) { // P14.1
	var pieces []string
	for _, letter := range someLetters {
		pieces = append(pieces, spelt(letter, shortest(letter)))
	}
	right := len(pieces)
	pieces = append(pieces, notValid...)
	pieces = append(pieces, cutOff...)
	r := rand.New(rand.NewSource(141))
	for range 50000 {
		s := chanceText(r, pieces[:right], 40)
		wantValid(t, s, true)
		at := r.Intn(len(s) + 1)
		s = s[:at] + pieces[r.Intn(len(pieces))] + s[at:]
		wantValid(t, s, slowValid(s))
	}
}

func TestExamples(t *testing.T) {
	wantClean(t, "a//./b/", "a/b")
	wantNoClean(t, "/a")
	wantNoClean(t, "a/../b")
	wantParents(t, "a/b/c", "a", "a/b")
	wantFromOem(t, "\x82", "\u00e9")
}

func TestCleanOfPaths(t *testing.T) { // P14.2
	for path, want := range map[string]string{
		"a": "a", "a/b": "a/b", "a/b/c": "a/b/c", "a/": "a", "a//": "a", "a//b": "a/b", "a///b": "a/b", "a/./b": "a/b", "./a": "a", "././a": "a", "a/.": "a", "a/./": "a",
		"a/././b": "a/b", ".//a": "a", ".//./a//.": "a", "./a/./b/./": "a/b",
		"a b": "a b", " ": " ", " a ": " a ", "\\": "\\", "..\\a": "..\\a", "a\\..\\b": "a\\..\\b", "C:": "C:", "C:/a": "C:/a", "~/a": "~/a", "*": "*", "a\nb": "a\nb", "\x01": "\x01", "\x7f": "\x7f",
		"A/a": "A/a", "é/₧": "é/₧", "\U0001f600": "\U0001f600", "\ufffd": "\ufffd", "\ufeffa": "\ufeffa",
	} {
		wantClean(t, path, want)
	}
}

func TestCleanOfPoints(t *testing.T) { // P14.2
	for path, want := range map[string]string{
		"...": "...", "....": "....", ".../a": ".../a", "a/...": "a/...", "a/.../b": "a/.../b", ".../": "...",
		".a": ".a", "a.": "a.", "..a": "..a", "a..": "a..", "a..b": "a..b", "a.b": "a.b", ".a/.b": ".a/.b", "..a/b": "..a/b", "a../b": "a../b", "b/..a": "b/..a", "b/a..": "b/a..", "a/..b": "a/..b",
		". ": ". ", " .": " .", ".. ": ".. ", " ..": " ..", "．．": "．．", "‥": "‥", "․․": "․․",
	} {
		wantClean(t, path, want)
	}
	for _, path := range []string{
		"..", "../", "..//", "../a", "..//a", "a/..", "a//..", "a/../", "a/../b", "a/..//b", "./..", "../.", "./../a", "a/./..", "../..", "a/b/..", "a/b/../c", "a/../..", "a/.../..", "../...",
	} {
		wantNoClean(t, path)
	}
}

func TestCleanOfNothingLeft(t *testing.T) { // P14.2
	for _, path := range []string{"", ".", "./", ".//", "./.", "././", ".//.", "././.", "/", "//", "/.", "/./", strings.Repeat("./", 1000), strings.Repeat("/", 1000), "." + strings.Repeat("/", 1000)} {
		wantNoClean(t, path)
	}
}

func TestCleanOfSlashAhead(t *testing.T) { // P14.2
	for _, path := range []string{"/a", "//a", "/./a", "/a/b", "/a/", "/ ", "/...", "/é", "/" + strings.Repeat("a", 199), "/" + strings.Repeat("a", 200)} {
		wantNoClean(t, path)
	}
}

func TestCleanOfByteNought(t *testing.T) { // P14.2
	for _, path := range []string{"\x00", "\x00a", "a\x00", "a\x00b", "a/\x00", "\x00/a", "a/\x00/b", "a/b\x00", ".\x00", "\x00.", "..\x00", "a/b/\x00", "a/b/c\x00", "é\x00", strings.Repeat("a", 199) + "\x00"} {
		wantNoClean(t, path)
	}
}

func TestCleanOfWrongTexts(t *testing.T) { // P14.2
	for _, s := range slices.Concat(notValid, cutOff) {
		for _, path := range []string{s, s + "a", "a" + s, "a" + s + "b", s + "/a", "a/" + s, "a/" + s + "/b", "./" + s, "\ufffd/" + s, "a/b/" + s + "/"} {
			wantNoClean(t, path)
		}
	}
}

func TestCleanAtMaxPath(t *testing.T) { // P14.2
	long := func(many int) string { return strings.Repeat("a", many) }
	for _, path := range []string{long(199), long(200), long(100) + "/" + long(99), strings.Repeat("a/", 99) + "ab", strings.Repeat("é", 100), strings.Repeat("é", 99) + "/a", strings.Repeat("\U0001f600", 50), strings.Repeat("₧", 66) + "aa"} {
		wantClean(t, path, path)
		wantClean(t, path+"/", path)
		wantClean(t, path+"/.", path)
		wantClean(t, "./"+path, path)
		wantClean(t, strings.Repeat("./", 5000)+path+strings.Repeat("/", 5000), path)
	}
	for _, path := range []string{long(201), long(202), long(400), long(100) + "/" + long(100), strings.Repeat("a/", 100) + "a", strings.Repeat("é", 100) + "a", "a" + strings.Repeat("é", 100), strings.Repeat("é", 101), strings.Repeat("\U0001f600", 50) + "a", long(200) + "/a", "a/" + long(200), long(1000000)} {
		wantNoClean(t, path)
		wantNoClean(t, path+"/")
		wantNoClean(t, "./"+path)
	}
	// Longer than MaxPath, but what is left is not.
	wantClean(t, long(99)+strings.Repeat("/", 5000)+long(100), long(99)+"/"+long(100))
	wantClean(t, long(100)+"/./././"+long(99), long(100)+"/"+long(99))
	wantNoClean(t, long(100)+strings.Repeat("/.", 5000)+"/"+long(100))
	wantClean(t, strings.Repeat("a//", 100), strings.Repeat("a/", 99)+"a")
	wantClean(t, strings.Repeat("./a/", 100), strings.Repeat("a/", 99)+"a")
	wantNoClean(t, strings.Repeat("a//", 101))
}

func TestCleanOfShortTexts(t *testing.T) { // P14.2, P14.5
	eachText([]string{"a", ".", "/", "..", "\x00", "é", "\xe9"}, 6, func(s string) { wantCleanAsModel(t, s) })
	eachText([]string{"a", ".", "/"}, 10, func(s string) { wantCleanAsModel(t, s) })
}

func TestCleanOfChance(t *testing.T) { // P14.2, P14.5
	r := rand.New(rand.NewSource(142))
	parts := []string{"a/", "ab/", "long part/", "é/", "₧₧/", "\U0001f600/", "./", "/", "//", ".../", "..a/", "a../", ".a/", "x", "\ufffd/"}
	wrong := []string{"../", "..", "\x00", "\xff", "\xc3", "/", "\xed\xa0\x80"}
	for n := range 20000 {
		path := chanceText(r, parts, 80)
		if n%3 == 0 {
			at := r.Intn(len(path) + 1)
			path = path[:at] + wrong[r.Intn(len(wrong))] + path[at:]
		}
		wantCleanAsModel(t, path)
	}
}

// TestCleanLeadsNowhereOut asks of whatever Clean tells what layers above rely on.
func TestCleanLeadsNowhereOut(t *testing.T) { // P14.2, P14.5
	eachText([]string{"a", ".", "..", "/", "\x00", "\xff"}, 6, func(s string) {
		path, err := names.Clean(s)
		if err != api.OK {
			return
		}
		for _, part := range strings.Split(path, "/") {
			if part == "" || part == "." || part == ".." {
				t.Errorf("P14.2: Clean(%q): %q", s, path)
			}
		}
		if again, err := names.Clean(path); again != path || err != api.OK {
			t.Errorf("P14.5: Clean(%q): %q, and of that: %q, %d", s, path, again, err)
		}
	})
}

func TestParentsOfPaths(t *testing.T) { // P14.3
	wantParents(t, "")
	wantParents(t, "a")
	wantParents(t, "abc.d")
	wantParents(t, "..")
	wantParents(t, "a\\b")
	wantParents(t, "a/b", "a")
	wantParents(t, "ab/cd/ef", "ab", "ab/cd")
	wantParents(t, "a/b/c/d", "a", "a/b", "a/b/c")
	wantParents(t, "é/₧/x", "é", "é/₧")
	wantParents(t, "../a", "..")
	wantParents(t, "a/./b", "a", "a/.")
}

func TestParentsOfSlashes(t *testing.T) { // P14.3
	wantParents(t, "/", "")
	wantParents(t, "//", "", "/")
	wantParents(t, "///", "", "/", "//")
	wantParents(t, "/a", "")
	wantParents(t, "/a/b", "", "/a")
	wantParents(t, "a/", "a")
	wantParents(t, "a/b/", "a", "a/b")
	wantParents(t, "a//b", "a", "a/")
	wantParents(t, "a//", "a", "a/")
	wantParents(t, "//a", "", "/")
}

func TestParentsOfWrongTexts(t *testing.T) { // P14.3
	wantParents(t, "\xff")
	wantParents(t, "\xc0\xaf")
	wantParents(t, "\xff/a", "\xff")
	wantParents(t, "a\x00b/c\x00", "a\x00b")
	wantParents(t, "\x00/\xff/", "\x00", "\x00/\xff")
	for _, s := range slices.Concat(notValid, cutOff) {
		wantParents(t, s+"/a", s)
		wantParents(t, s+"/"+s+"/"+s, s, s+"/"+s)
	}
}

func TestParentsOfShortTexts(t *testing.T) { // P14.3
	eachText([]string{"a", "/", "é", ".", "\x00", "\xe2", "\xaf"}, 6, func(s string) { wantParents(t, s, slowParents(s)...) })
	long := strings.Repeat("a/", 5000)
	wantParents(t, long, slowParents(long)...)
}

func TestFromOemOfEachByte(t *testing.T) { // P14.4, P14.5
	seen := map[string]int{}
	for n := range 256 {
		b := string([]byte{byte(n)})
		letter := string(letterOf[n])
		wantFromOem(t, b, letter)
		wantFromOem(t, b+b, letter+letter)
		wantFromOem(t, "a"+b+"\xe9", "a"+letter+"Θ")
		seen[names.FromOem(b)]++
		if n < 128 && names.FromOem(b) != b {
			t.Errorf("P14.4: FromOem of the byte %d is not itself", n)
		}
	}
	if len(seen) != 256 {
		t.Errorf("P14.4: 256 bytes have %d letters", len(seen))
	}
}

func TestFromOemOfTexts(t *testing.T) { // P14.4, P14.5
	wantFromOem(t, "", "")
	wantFromOem(t, "a/b.txt", "a/b.txt")
	wantFromOem(t, "\x00", "\x00")
	wantFromOem(t, "\x00\x7f\x80\xff", "\x00\x7fÇ\u00a0")
	wantFromOem(t, "\xc3\xa9", "├⌐") // bytes of one letter of UTF-8 are two letters here
	wantFromOem(t, "\xef\xbf\xbd", "∩┐╜")
	all := make([]byte, 256)
	for n := range all {
		all[n] = byte(n)
	}
	wantFromOem(t, string(all), string(letterOf[:]))
	slices.Reverse(all)
	wantFromOem(t, string(all), slowFromOem(string(all)))
}

func TestFromOemOfChance(t *testing.T) { // P14.4, P14.5
	r := rand.New(rand.NewSource(144))
	for n := range 3000 {
		b := make([]byte, r.Intn(1+n%300))
		r.Read(b)
		wantFromOem(t, string(b), slowFromOem(string(b)))
	}
	for n := range 1 << 16 {
		b := string([]byte{byte(n >> 8), byte(n)})
		wantFromOem(t, b, slowFromOem(b))
	}
}

func TestToOemOfEachLetter(t *testing.T) { // P14.4, P14.5
	for letter := range 0x110000 {
		if isLetter(letter) {
			s := spelt(letter, shortest(letter))
			if b, is := byteOf[rune(letter)]; is {
				wantToOem(t, s, string([]byte{b}))
				wantToOem(t, "a"+s, string([]byte{'a', b}))
				wantToOem(t, s+"é", string([]byte{b, 0x82}))
			} else {
				wantNoOem(t, s)
			}
		}
	}
}

func TestToOemOfTexts(t *testing.T) { // P14.4, P14.5
	wantToOem(t, "", "")
	wantToOem(t, "a/b.txt", "a/b.txt")
	wantToOem(t, "\x00\x01\x7f", "\x00\x01\x7f")
	wantToOem(t, "é", "\x82")
	wantToOem(t, "naïve ½", "na\x8bve \xab")
	wantToOem(t, upperLetters, slowBytesFrom128())
	wantToOem(t, strings.Repeat("░", 10000), strings.Repeat("\xb0", 10000))
}

func slowBytesFrom128() string {
	var b []byte
	for n := 128; n < 256; n++ {
		b = append(b, byte(n))
	}
	return string(b)
}

func TestToOemOfOtherLetters(t *testing.T) { // P14.4
	for _, s := range []string{
		"\u0080", "\u0081", "\u009f", "\u00a4", "\u00a6", "\u00c0", "\u00fd", "\u0100", "\u0394", "\u03bc", "\u2126", "\u0416", "\u20ac", "\u2206", "\u2500\u2501", "\ufeff", "\ufffc", "\ufffd", "\ufffe", "\uffff",
		"\U00010041", "\U000100e9", "\U0001f600", "\U0010ffff", "\U00010000", "\u0141", "\u0161", "e\u0301", "☺", "⌂",
	} {
		wantNoOem(t, s)
		for _, around := range []string{"a", "é", "░", strings.Repeat("a", 1000)} {
			wantNoOem(t, around+s)
			wantNoOem(t, s+around)
			wantNoOem(t, around+s+around)
		}
	}
}

func TestToOemOfWrongTexts(t *testing.T) { // P14.4
	for _, s := range slices.Concat(notValid, cutOff) {
		wantNoOem(t, s)
		for _, around := range []string{"a", "é", "░", "\x00"} {
			wantNoOem(t, around+s)
			wantNoOem(t, s+around)
			wantNoOem(t, around+s+around)
		}
	}
	for n := 128; n < 256; n++ {
		wantNoOem(t, string([]byte{byte(n)}))
	}
}

func TestToOemOfShortTexts(t *testing.T) { // P14.4, P14.5
	eachText([]string{"a", "\x00", "é", "₧", "\u00a0", "\ufffd", "Ж", "\xc3", "\xa9"}, 5, func(s string) { wantToOemAsModel(t, s) })
}

func TestParentsAreTheCallersOwn(t *testing.T) { // P14.3, R6, R7
	const path = "a/b/c/d"
	one, other := names.Parents(path), names.Parents(path)
	for n := range one[:cap(one)] {
		one[:cap(one)][n] = "else"
	}
	want := []string{"a", "a/b", "a/b/c"}
	if !slices.Equal(other, want) {
		t.Errorf("R6: what was written into an answer is in another one: %q", other)
	}
	wantParents(t, path, want...)
}

// TestLongTexts asks that calls end soon, however many parts or letters there are.
func TestLongTexts(t *testing.T) { // R1
	const many = 1 << 20
	wantNoClean(t, strings.Repeat("a/", many))
	wantClean(t, "a"+strings.Repeat("/.", many), "a")
	wantNoClean(t, strings.Repeat("./", many)+"..")
	const slashes = 1 << 15 // their parents have 2^29 bytes together; those of many would be beyond the limits
	if got := names.Parents(strings.Repeat("/", slashes)); len(got) != slashes || got[0] != "" || len(got[slashes-1]) != slashes-1 {
		t.Errorf("P14.3: %d slashes have %d parents", slashes, len(got))
	}
	wantFromOem(t, strings.Repeat("\xff", many), strings.Repeat("\u00a0", many))
	wantNoOem(t, strings.Repeat("\u00a0", many)+"\xff")
	wantValid(t, strings.Repeat("\ufffd", many), true)
	wantValid(t, strings.Repeat("\ufffd", many)+"\xef", false)
}
