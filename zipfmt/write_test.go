package zipfmt_test

import (
	"fmt"
	"math"
	"math/rand"
	"slices"
	"strings"
	"testing"

	"wainload/api"
	"wainload/counter"
	"wainload/deflate"
	"wainload/times"
	"wainload/tree"
	"wainload/zipfmt"
)

const salt = "0123456789abcdef"

// slowWrite is the chapter, sentence by sentence, of a tree that can be written.
func slowWrite(l []api.Entry, level int, secret, salt string) string {
	front, records := "", ""
	for _, e := range l {
		name, upper, flags, method := e.Path, 8, 2048, 0
		data := e.Data
		switch e.Kind {
		case api.Folder:
			name, upper = e.Path+"/", 4
		case api.Link:
			data, upper = e.Target, 10
		}
		body, sum := data, sumOf(data)
		if small := deflate.Deflate([]byte(data), level); level > 0 && len(small) < len(data) {
			body, method = string(small), 8
		}
		nt := le(int(times.ToNt(e.Time)), 8)
		extra := "\x0a\x00\x20\x00" + "\x00\x00\x00\x00" + "\x01\x00\x18\x00" + nt + nt + nt
		if secret != "" && e.Kind != api.Folder {
			sealed, _ := counter.Seal(3, []byte(secret), []byte(salt), []byte(body))
			extra += "\x01\x99\x07\x00" + "\x02\x00" + "AE" + "\x03" + le(method, 2)
			body, method, flags, sum = string(sealed), 99, 2049, 0
		}
		day, clock, _ := times.ToDos(e.Time)
		both := le(20, 2) + le(flags, 2) + le(method, 2) + le(int(clock), 2) + le(int(day), 2) + le(sum, 4) + le(len(body), 4) + le(len(data), 4) + le(len(name), 2) + le(len(extra), 2)
		records += "PK\x01\x02" + "\x14\x03" + both + le(0, 2) + le(0, 2) + le(0, 2) + le(upper<<28|e.Mode<<16, 4) + le(len(front), 4) + name + extra
		front += "PK\x03\x04" + both + name + extra + body
	}
	return front + records + "PK\x05\x06" + le(0, 4) + le(len(l), 2) + le(len(l), 2) + le(len(records), 4) + le(len(front), 4) + le(0, 2)
}

// write also asks that what is given stays as it was.
func write(t *testing.T, what string, l []api.Entry, level int, secret, salt string) ([]byte, bool) {
	t.Helper()
	was := slices.Clone(l)
	b, is := zipfmt.Write(l, level, secret, salt)
	if !slices.Equal(l, was) {
		t.Errorf("R5: %s: %s were changed to %s", what, shown(was), shown(l))
	}
	return b, is
}

func unlike(a, b string) int {
	for n := range min(len(a), len(b)) {
		if a[n] != b[n] {
			return n
		}
	}
	return min(len(a), len(b))
}

// wantWrite asks for each byte, and for what follows of it.
func wantWrite(t *testing.T, what string, l []api.Entry, level int, secret string) {
	t.Helper()
	what = fmt.Sprintf("%s, level %d, secret %.10q", what, level, secret)
	b, is := write(t, what, l, level, secret, salt)
	want := slowWrite(l, level, secret, salt)
	if !is || string(b) != want {
		t.Errorf("P18.3: %s: Write(%s): %d bytes, %v, unlike from %d on", what, shown(l), len(b), is, unlike(string(b), want))
	}
	wantReadOfWrite(t, what, string(b), secret, l)
}

// wantReadOfWrite asks with just the limits that the tree needs, and with one less.
func wantReadOfWrite(t *testing.T, what, b, secret string, l []api.Entry) {
	t.Helper()
	size := 0
	for _, e := range l {
		size += len(e.Data) + len(e.Target)
	}
	want := tree.Project(l, api.Zip)
	for _, limits := range [][2]int{{size, len(l)}, {math.MaxInt, math.MaxInt}} {
		if got, err := zipfmt.Read([]byte(b), secret, limits[0], limits[1]); err != api.OK || !slices.Equal(got, want) {
			t.Errorf("P18.4: %s: %v, %s; want %s", what, err, shown(got), shown(want))
		}
	}
	if len(l) == 0 {
		return
	}
	for _, limits := range [][2]int{{size - 1, len(l)}, {size, len(l) - 1}, {-1, -1}} {
		if got, err := zipfmt.Read([]byte(b), secret, limits[0], limits[1]); err != api.ErrTreeOver || len(got) != 0 {
			t.Errorf("P18.4: %s, a limit less: %v, %s", what, err, shown(got))
		}
	}
}

// wantNoWrite also asks that nothing is told.
func wantNoWrite(t *testing.T, what string, level int, secret, salt string, l ...api.Entry) {
	t.Helper()
	if b, is := write(t, what, l, level, secret, salt); is || len(b) != 0 {
		t.Errorf("P18.3: %s: Write(%s): %d bytes, %v", what, shown(l), len(b), is)
	}
}

func TestWriteOfNothing(t *testing.T) { // P18.3
	for _, l := range [][]api.Entry{nil, {}, make([]api.Entry, 0, 5)} {
		for level := -1; level < 5; level++ {
			for _, secret := range []string{"", "p"} {
				if b, is := write(t, "nothing", l, level, secret, salt); !is || string(b) != none {
					t.Errorf("%x, %v", b, is)
				}
				wantWrite(t, "nothing", l, level, secret)
			}
		}
	}
}

// The bytes of these archives are written out, and not by a model.
func TestWriteOfEachKind(t *testing.T) { // P18.3
	nt := "\x00\x80\x3e\xd5\xde\xb1\x9d\x01" // when 1970 began
	extra := "\x0a\x00\x20\x00\x00\x00\x00\x00\x01\x00\x18\x00" + nt + nt + nt
	noughts := strings.Repeat("\x00", 8)
	for _, x := range []struct {
		e                    api.Entry
		numbers, name, upper string
		body                 string
	}{
		{api.Entry{Kind: api.File, Path: "a", Mode: 0644, Data: "a"}, "\x43\xbe\xb7\xe8\x01\x00\x00\x00\x01\x00\x00\x00", "a", "\xa4\x81", "a"},
		{api.Entry{Kind: api.Folder, Path: "a/b", Mode: 07777}, noughts + "\x00\x00\x00\x00", "a/b/", "\xff\x4f", ""},
		{api.Entry{Kind: api.Link, Path: "l", Target: "a", Mode: 0}, "\x43\xbe\xb7\xe8\x01\x00\x00\x00\x01\x00\x00\x00", "l", "\x00\xa0", "a"},
	} {
		both := "\x14\x00\x00\x08\x00\x00\x00\x00\x00\x00" + x.numbers + le(len(x.name), 2) + "\x24\x00"
		front := "PK\x03\x04" + both + x.name + extra + x.body
		record := "PK\x01\x02\x14\x03" + both + noughts + x.upper + "\x00\x00\x00\x00" + x.name + extra
		want := front + record + "PK\x05\x06\x00\x00\x00\x00\x01\x00\x01\x00" + le(len(record), 4) + le(len(front), 4) + "\x00\x00"
		l := []api.Entry{x.e}
		for level := range 4 {
			if b, is := write(t, "one", l, level, "", ""); !is || string(b) != want {
				t.Errorf("P18.3: %s: unlike from %d on", shown(l), unlike(string(b), want))
			}
			if s := slowWrite(l, level, "", ""); s != want {
				t.Error("the model is unlike from", unlike(s, want))
			}
		}
	}
}

func TestWriteOfEachKindSealed(t *testing.T) { // P18.3
	l := []api.Entry{folder("a"), file("a/f", "some data"), link("a/l", "to"), file("e", "")}
	b, is := write(t, "sealed", l, 0, "secret", salt)
	for _, e := range l {
		e.Data += e.Target
		at := strings.Index(string(b), "PK\x01\x02"+"\x14\x03\x14\x00") // the next record
		if at < 0 || !is {
			t.Fatal("no record", shown([]api.Entry{e}))
		}
		b = b[at:]
		name := e.Path
		if e.Kind == api.Folder {
			name += "/"
			if string(b[8:12]) != "\x00\x08\x00\x00" || string(b[28:32]) != le(len(name), 2)+"\x24\x00" {
				t.Errorf("P18.3: %q", b[:46])
			}
			b = b[46:]
			continue
		}
		inside := 16 + 2 + len(e.Data) + 10
		if string(b[8:12]) != "\x01\x08\x63\x00" || string(b[16:32]) != le(0, 4)+le(inside, 4)+le(len(e.Data), 4)+le(len(name), 2)+"\x2f\x00" {
			t.Errorf("P18.3: %q", b[:46])
		}
		if field := string(b[46+len(name)+36:][:11]); field != "\x01\x99\x07\x00\x02\x00AE\x03\x00\x00" {
			t.Errorf("P18.3: %q", field)
		}
		b = b[46:]
	}
	wantWrite(t, "sealed", l, 0, "secret")
	for _, e := range l {
		wantWrite(t, "one", []api.Entry{e}, 1, "s")
	}
	if bytes, _ := zipfmt.Write(l, 0, "secret", salt); strings.Contains(string(bytes), "some data") {
		t.Error("not encrypted")
	}
}

func TestWriteWithSalts(t *testing.T) { // P18.3
	l := []api.Entry{file("a", "some")}
	for n := range 40 {
		s := strings.Repeat("s", n)
		what := fmt.Sprint("a salt of ", n)
		if b, is := write(t, what, l, 1, "", s); !is || string(b) != slowWrite(l, 1, "", "") {
			t.Error("P18.3: no secret,", what)
		}
		if n != 16 {
			wantNoWrite(t, what, 1, "p", s, l...)
			wantNoWrite(t, what+", no entry", 1, "p", s)
			wantNoWrite(t, what+", Folders alone", 1, "p", s, folder("a"))
			continue
		}
		if b, is := write(t, what, l, 1, "p", s); !is || string(b) != slowWrite(l, 1, "p", s) {
			t.Error("P18.3: ", what)
		}
	}
	one, _ := zipfmt.Write(l, 0, "p", salt)
	two, _ := zipfmt.Write(l, 0, "p", "fedcba9876543210")
	if string(one) == string(two) {
		t.Error("P18.3: the salt is not used")
	}
	for _, secret := range []string{"p", "\x00", "\xff", strings.Repeat("long", 50), "é"} {
		for _, salt := range []string{strings.Repeat("\x00", 16), strings.Repeat("\xff", 16), salt} {
			if b, is := write(t, secret, l, 0, secret, salt); !is || string(b) != slowWrite(l, 0, secret, salt) {
				t.Errorf("P18.3: secret %q, salt %q", secret, salt)
			}
		}
		wantWrite(t, "a secret", l, 1, secret)
	}
}

func TestWriteOfLevels(t *testing.T) { // P18.3
	long, short := strings.Repeat("text of it ", 300), "ab"
	r := rand.New(rand.NewSource(3))
	noise := make([]byte, 300)
	r.Read(noise)
	l := []api.Entry{file("a", long), file("b", short), file("c", ""), file("d", string(noise)), link("e", strings.Repeat("to/", 60)), folder("f")}
	for _, level := range []int{math.MinInt, -2, -1, 0, 1, 2, 3, 4, 9, 10, 1000, math.MaxInt} {
		wantWrite(t, "all", l, level, "")
		b, _ := zipfmt.Write(l, level, "", "")
		at := 0
		for _, e := range l { // which of them are deflated
			data := e.Data + e.Target
			isSmall := level > 0 && (e.Path == "a" || e.Path == "e")
			if method := int(b[at+8]); (method == 8) != isSmall || !isSmall && method != 0 {
				t.Errorf("P18.3: level %d, %s: method %d", level, e.Path, method)
			}
			inside := int(b[at+18]) | int(b[at+19])<<8
			if isSmall && inside >= len(data) || !isSmall && inside != len(data) {
				t.Errorf("P18.3: level %d, %s: %d bytes inside", level, e.Path, inside)
			}
			at += 30 + int(b[at+26]) + int(b[at+28]) + inside
		}
	}
	for level := range 4 {
		wantWrite(t, "sealed", l, level, "p")
	}
	plain, _ := zipfmt.Write(l, 0, "", "")
	for _, level := range []int{-1, math.MinInt} {
		if b, _ := zipfmt.Write(l, level, "", ""); string(b) != string(plain) {
			t.Error("P18.3: level below 0")
		}
	}
}

// Data is deflated only if that is shorter, and not if it is as long.
func TestWriteOfDataOfEachLength(t *testing.T) { // P18.3
	met := map[string]int{}
	for n := range 200 {
		for _, of := range []string{"a", "ab", "abcdefgh", "\x00\xff\xf0\x0f\x3c\x55\x77\x99\xab\xcd\xef\x01\x23\x45\x67\x89"} {
			data := strings.Repeat(of, n/len(of)+1)[:n]
			l := []api.Entry{file("a", data)}
			wantWrite(t, fmt.Sprint(n, " bytes"), l, 1, "")
			b, _ := zipfmt.Write(l, 1, "", "")
			switch small := len(deflate.Deflate([]byte(data), 1)); {
			case small < n && b[8] == 8:
				met["shorter"]++
			case small == n && b[8] == 0:
				met["as long"]++
			case small > n && b[8] == 0:
				met["longer"]++
			default:
				t.Errorf("P18.3: %q: method %d", data, b[8])
			}
		}
	}
	for _, what := range []string{"shorter", "as long", "longer"} {
		if met[what] == 0 {
			t.Error("not met:", what)
		}
	}
	for _, n := range []int{65535, 65536, 70000, api.MaxData} {
		wantWrite(t, fmt.Sprint(n, " bytes"), []api.Entry{file("a", strings.Repeat("d", n)), file("b", strings.Repeat("d", n-1))}, 1, "")
		wantWrite(t, fmt.Sprint(n, " bytes"), []api.Entry{file("a", strings.Repeat("d", n)), link("b", "to")}, 0, "")
	}
	inside := zip(partFile("z", "z"))
	wantWrite(t, "an archive in it", []api.Entry{file("a", inside), file("b", none), link("c", none[:4])}, 0, "")
}

func TestWriteOfModes(t *testing.T) { // P18.3
	for mode := range 4096 {
		wantWrite(t, fmt.Sprintf("mode %o", mode), []api.Entry{withMode(file("a", ""), mode), withMode(folder("b"), 4095-mode), withMode(link("c", "to"), mode)}, 0, "")
	}
}

func TestWriteOfNames(t *testing.T) { // P18.3
	for _, n := range []int{1, 2, 100, 199, 200} {
		for _, path := range []string{strings.Repeat("n", n), strings.Repeat("n/", n)[:n-1] + "n", strings.Repeat("é", n/2) + strings.Repeat("n", n%2)} {
			wantWrite(t, fmt.Sprint("path of ", n), []api.Entry{folder(path)}, 1, "")
			wantWrite(t, fmt.Sprint("path of ", n), []api.Entry{file(path, "data")}, 1, "")
			wantWrite(t, fmt.Sprint("path of ", n), []api.Entry{link(path, path)}, 1, "")
		}
	}
	for _, path := range []string{"a\\b", "...", "\u202e", "日本", "\xf0\x9f\x98\x80", "a\n"} {
		wantWrite(t, path, []api.Entry{file(path, "data")}, 0, "")
	}
}

func TestWriteOfTimes(t *testing.T) { // P18.3, P18.4
	const first, last = 315532800, 4354819199 // the seconds that DOS has
	for _, at := range []int64{
		0, 1, 99, 100, 101, 199, -1, -99, -100, -101, sec, -sec, 951868800 * sec, 951868801 * sec, 951868803*sec - 1, someTime, first * sec, first*sec - 1, first*sec + 1, (first - 1) * sec, last * sec, last*sec + sec - 1,
		(last + 1) * sec, math.MaxInt64, math.MaxInt64 - 7, math.MaxInt64 - 8, math.MinInt64 + 8, math.MinInt64 + 9, math.MinInt64 + 108, math.MinInt64/2 + 1, 9000000000*sec + 1,
	} {
		for _, e := range []api.Entry{file("a", "data"), folder("a"), link("a", "to")} {
			e.Time = at
			wantWrite(t, fmt.Sprint("time ", at), []api.Entry{e}, 0, "")
			b, _ := zipfmt.Write([]api.Entry{e}, 0, "", "")
			day, clock, is := times.ToDos(at)
			if string(b[10:14]) != le(int(clock), 2)+le(int(day), 2) || !is && string(b[10:14]) != "\x00\x00\x00\x00" {
				t.Errorf("P18.3: time %d: %q", at, b[10:14])
			}
		}
	}
	if is := at(first*sec-1) == 0 && at(first*sec) != 0 && at(last*sec) != 0 && at((last+1)*sec) == 0; !is {
		t.Error("P18.3: the first and the last time of DOS")
	}
}

// at is what stands where the clock and the day of a time do.
func at(time int64) int {
	b, _ := zipfmt.Write([]api.Entry{withTime(file("a", ""), time)}, 0, "", "")
	return int(b[10]) | int(b[11])<<8 | int(b[12])<<16 | int(b[13])<<24
}

func TestWriteOfWhatZipCannotHold(t *testing.T) { // P18.3
	found := 0
	for less := range int64(300) {
		time := math.MinInt64 + less
		e := withTime(file("b", "data"), time)
		if tree.Can([]api.Entry{e}, api.Zip) {
			wantWrite(t, fmt.Sprint("time ", time), []api.Entry{e}, 0, "")
			continue
		}
		found++
		for _, secret := range []string{"", "p"} {
			wantNoWrite(t, "a time that ZIP can't hold", 1, secret, salt, e)
			wantNoWrite(t, "behind others", 1, secret, salt, folder("a"), e)
			wantNoWrite(t, "ahead of others", 1, secret, salt, e, folder("c"))
		}
	}
	if found == 0 {
		t.Error("none is found")
	}
}

func TestWriteOfWhatIsNoTree(t *testing.T) { // P18.3
	for what, e := range map[string]api.Entry{
		"zero": {}, "no path": file("", ""), "not clean": file("a/", ""), "leads out": file("../a", ""), "begins with a slash": file("/a", ""), "not Valid": file("\xff", ""), "a byte 0": file("a\x00", ""), "201 bytes": file(strings.Repeat("n", 201), ""),
		"a mode below 0": withMode(file("a", ""), -1), "a mode above": withMode(folder("a"), 4096), "a File's Target": {Kind: api.File, Path: "a", Target: "t"}, "a Folder's Data": {Kind: api.Folder, Path: "a", Data: "d"},
		"a Folder's Target": {Kind: api.Folder, Path: "a", Target: "t"}, "a Link's Data": {Kind: api.Link, Path: "a", Target: "t", Data: "d"}, "no Target": link("a", ""), "a Target not Valid": link("a", "\xff"), "a Target too long": link("a", strings.Repeat("t", 201)),
		"another Kind": {Kind: 4, Path: "a"}, "a Kind below 0": {Kind: -1, Path: "a"}, "too much Data": file("a", strings.Repeat("x", api.MaxData+1)),
	} {
		wantNoWrite(t, what, 1, "", "", e)
		wantNoWrite(t, what+", with a secret", 1, "p", salt, e)
		wantNoWrite(t, what+", with a secret and no salt", 1, "p", "", e)
		wantNoWrite(t, what+", behind others", 1, "", "", file("A", ""), e)
	}
	wantNoWrite(t, "not rising", 1, "", "", file("b", ""), file("a", ""))
	wantNoWrite(t, "twice", 1, "", "", file("a", ""), file("a", ""))
	wantNoWrite(t, "below a File", 1, "", "", file("a", ""), file("a/b", ""))
	var l []api.Entry
	for n := range api.MaxTree + 1 {
		l = append(l, file(fmt.Sprintf("n%04d", n), ""))
	}
	wantNoWrite(t, "too many", 0, "", "", l...)
	wantWrite(t, "just as many as may be", l[:api.MaxTree], 0, "")
}

// tree makes one by chance.
func (c chance) tree() []api.Entry {
	var l []api.Entry
	for range c.Intn(8) {
		e := api.Entry{Kind: 1 + c.Intn(3), Path: c.of("a", "b", "c/d", "c/e", "f/g/h", "é", "z") + c.of("", "1", "2", "/x"), Mode: c.Intn(4096), Time: c.time()}
		switch e.Kind {
		case api.File:
			e.Data = c.text() + c.text()
		case api.Link:
			e.Target = c.of("a", "../b", strings.Repeat("to/", 20), "/é")
		}
		if more := tree.Sort(append(l, e)); tree.Can(more, api.Zip) {
			l = more
		}
	}
	return l
}

func (c chance) time() int64 {
	switch c.Intn(4) {
	case 0:
		return int64(c.Intn(2000) - 1000)
	case 1:
		return c.Int63() - 1<<62
	case 2:
		return (315532800 + c.Int63n(4039286400)) * sec
	}
	return c.Int63n(2000000000000000000)
}

func TestWriteByChance(t *testing.T) { // P18.3, P18.4
	c := chance{rand.New(rand.NewSource(4))}
	for n := range 6000 {
		secret := ""
		if n%300 == 0 {
			secret = c.of("p", "secret", "\xff\x00")
		}
		wantWrite(t, fmt.Sprint("tree ", n), c.tree(), c.Intn(6)-1, secret)
	}
}

// What is told is the caller's own, and the same calls tell the same.
func TestWriteTwice(t *testing.T) { // P18.3
	l := []api.Entry{folder("a"), file("a/b", strings.Repeat("data", 20)), link("c", "to")}
	for _, secret := range []string{"", "p"} {
		first, _ := zipfmt.Write(l, 1, secret, salt)
		was := string(first)
		second, _ := zipfmt.Write(l, 1, secret, salt)
		clear(first)
		clear(first[:cap(first)])
		third, _ := zipfmt.Write(l, 1, secret, salt)
		if string(second) != was || string(third) != was {
			t.Error("R6, R7: not the same")
		}
	}
	empty, _ := zipfmt.Write(nil, 0, "", "")
	clear(empty)
	if again, _ := zipfmt.Write(nil, 0, "", ""); string(again) != none {
		t.Error("R6: nothing, written into")
	}
}

// What was written is refused, or is another tree in what was changed alone, whichever byte is turned.
func TestReadOfWriteWithEveryByteTurned(t *testing.T) { // P18.1, P18.2
	l := []api.Entry{folder("a"), withTime(file("a/b", strings.Repeat("data", 9)), 700), link("c", "to")}
	for _, level := range []int{0, 1} {
		b, _ := zipfmt.Write(l, level, "", "")
		for at := range b {
			for bit := range 8 {
				s := slices.Clone(b)
				s[at] ^= 1 << bit
				likeModel(t, fmt.Sprint("byte ", at, ", bit ", bit), string(s), 38, 3)
			}
		}
		for cut := range b {
			refuses(t, fmt.Sprint("cut at ", cut), string(b[:cut]), 38, 3, api.ErrZipForm)
		}
		refuses(t, "a byte behind it", string(b)+"\x00", 38, 3, api.ErrZipForm)
	}
	b, _ := zipfmt.Write(l[1:2], 1, word, salt)
	readWith(t, "the secret", string(b), word, tree.Project(l[1:2], api.Zip), api.OK)
	for at := 30; at < len(b); at += 7 {
		s := slices.Clone(b)
		s[at] ^= 4
		likeModel(t, fmt.Sprint("sealed, byte ", at), string(s), 38, 3)
	}
	for _, other := range []string{"", "Password", "password1"} {
		readWith(t, other, string(b), other, nil, api.ErrZipTag)
	}
}
