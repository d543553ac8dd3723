package gz_test

import (
	"bytes"
	"compress/flate"
	"compress/gzip"
	"fmt"
	"math"
	"math/rand"
	"slices"
	"strings"
	"testing"
	"time"

	"wainload/api"
	"wainload/deflate"
	"wainload/gz"
	"wainload/inflate"
)

// one is the chapter's example.
const one = "\x1f\x8b\x08\x00\x00\x00\x00\x00\x00\xff\x4b\x04\x00\x43\xbe\xb7\xe8\x01\x00\x00\x00"

// full has something of everything that a member may have.
var full = api.Member{Name: "name", Comment: "comment", Extra: "ex\x00tra", Time: 0x01020304, Text: true, Data: "data of it"}

// rightFlags are all that a head may have.
const rightFlags = 32

// keep is what of m a head of such flags has.
func keep(flags byte, m api.Member) api.Member {
	m.Text = flags&1 != 0
	if flags&4 == 0 {
		m.Extra = ""
	}
	if flags&8 == 0 {
		m.Name = ""
	}
	if flags&16 == 0 {
		m.Comment = ""
	}
	return m
}

// turned is s with the bits of by turned in one byte.
func turned(s string, at int, by byte) string {
	b := []byte(s)
	b[at] ^= by
	return string(b)
}

func TestExamplesOfTheChapter(t *testing.T) { // P9.1
	tells(t, "one", one, 1, api.Member{Data: "a"})
	refuses(t, "its first 20 bytes", one[:20], 1, api.ErrGzEnd)
	met := map[api.Errno]int{}
	for by := 1; by < 256; by++ {
		met[likeModel(t, fmt.Sprint("ninth byte from the end, turned by ", by), turned(one, len(one)-9, byte(by)), plenty)]++
	}
	// Two of its bits are the end's code; the others stand behind the stream's end.
	if met[api.OK] != 63 || met[api.ErrGzSum]+met[api.ErrGzForm]+met[api.ErrGzEnd] != 192 {
		t.Error("ninth byte from the end:", met)
	}
}

func TestNoBytesAtAll(t *testing.T) { // P9.1
	for _, most := range []int{math.MinInt, -1, 0, 1, math.MaxInt} {
		for _, b := range [][]byte{nil, {}} {
			if l, e := gz.Read(b, most); e != api.ErrGzEnd || len(l) != 0 {
				t.Error(most, l, e)
			}
		}
	}
}

func TestAllFlags(t *testing.T) { // P9.1
	for f := range 256 {
		flags := byte(f)
		for what, m := range map[string]api.Member{"full": full, "with empty texts": {Data: "a"}} {
			what = fmt.Sprint("flags ", flags, ", ", what)
			s := head(flags, m) + stored(m.Data) + end(m.Data)
			if flags < rightFlags {
				tells(t, what, s, plenty, keep(flags, m))
				tells(t, what+", behind another", one+s, plenty, api.Member{Data: "a"}, keep(flags, m))
				continue
			}
			refuses(t, what, s, plenty, api.ErrGzForm)
			refuses(t, what+", ten bytes alone", s[:10], plenty, api.ErrGzForm)
			refuses(t, what+", nine bytes alone", s[:9], plenty, api.ErrGzEnd)
			refuses(t, what+", behind another", one+s, plenty, api.ErrGzForm)
		}
	}
}

func TestEachCutOfAMember(t *testing.T) { // P9.1
	for flags := range byte(rightFlags) {
		for what, stream := range map[string]string{
			"stored":  stored(full.Data),
			"deflate": string(deflate.Deflate([]byte(full.Data), 1)),
		} {
			s := head(flags, full) + stream + end(full.Data)
			for cut := range len(s) {
				where := fmt.Sprint("flags ", flags, ", ", what, ", cut at ", cut)
				refuses(t, where, s[:cut], plenty, api.ErrGzEnd)
				if cut > 0 {
					refuses(t, where+", behind another", one+s[:cut], plenty, api.ErrGzEnd)
				}
			}
		}
	}
}

func TestTextsThatNothingEnds(t *testing.T) { // P9.1
	for _, flags := range []byte{8, 16, 24} {
		h := head(0, api.Member{})
		h = h[:3] + string([]byte{flags}) + h[4:]
		for _, text := range []string{"", "x", strings.Repeat("never ending, ", 1000)} {
			refuses(t, fmt.Sprint("flags ", flags), h+text, plenty, api.ErrGzEnd)
			refuses(t, fmt.Sprint("flags ", flags, ", twice"), one+h+text, plenty, api.ErrGzEnd)
		}
	}
	// A single byte 0 ends one of both texts.
	h := head(8|16, api.Member{Name: "n", Comment: "c"})
	refuses(t, "comment not ended", h[:len(h)-1], plenty, api.ErrGzEnd)
	refuses(t, "comment not ended, and a stream behind", h[:len(h)-1]+"\x03\x01\x02", plenty, api.ErrGzEnd)
}

func TestFirstThreeBytes(t *testing.T) { // P9.1
	for at := range 3 {
		for by := 1; by < 256; by++ {
			s := turned(one, at, byte(by))
			what := fmt.Sprint("byte ", at, " turned by ", by)
			refuses(t, what, s, plenty, api.ErrGzForm)
			refuses(t, what+", ten bytes alone", s[:10], plenty, api.ErrGzForm)
			refuses(t, what+", behind another", one+s, plenty, api.ErrGzForm)
			for few := at + 1; few < 10; few++ {
				refuses(t, fmt.Sprint(what, ", ", few, " bytes alone"), s[:few], plenty, api.ErrGzEnd)
			}
		}
	}
}

func TestTheTimeAndTheTwoBytesThatAreNotAsked(t *testing.T) { // P9.1
	for _, when := range []uint32{0, 1, 255, 256, 1 << 16, 1 << 24, 0x01020304, 1<<31 - 1, 1 << 31, 1<<32 - 1} {
		tells(t, fmt.Sprint("time ", when), one[:4]+le(uint64(when), 4)+one[8:], 1, api.Member{Time: when, Data: "a"})
	}
	for x := range 256 {
		two := string([]byte{byte(x), byte(x + 7)})
		tells(t, fmt.Sprint("not asked ", x), one[:8]+two+one[10:], 1, api.Member{Data: "a"})
	}
}

func TestTheHeadsSum(t *testing.T) { // P9.1
	for flags := range byte(rightFlags) {
		if flags&2 == 0 {
			continue
		}
		h := head(flags, full)
		rest := stored(full.Data) + end(full.Data)
		for bit := range 16 {
			s := turned(h, len(h)-2+bit/8, 1<<(bit%8))
			what := fmt.Sprint("flags ", flags, ", bit ", bit, " of the sum")
			refuses(t, what, s+rest, plenty, api.ErrGzSum)
			refuses(t, what+", no stream", s, plenty, api.ErrGzSum)
			refuses(t, what+", behind another", one+s+rest, plenty, api.ErrGzSum)
		}
		// Each byte of the head counts: also the time, and the two that are not asked.
		for at := 4; at < 10; at++ {
			refuses(t, fmt.Sprint("flags ", flags, ", byte ", at), turned(h, at, 1)+rest, plenty, api.ErrGzSum)
		}
		for at := range len(h) - 2 {
			likeModel(t, fmt.Sprint("flags ", flags, ", byte ", at), turned(h, at, 64)+rest, plenty)
		}
		// The highest 16 bits are not the lowest ones, and the lowest byte comes first.
		all := le(sum(h[:len(h)-2]), 4)
		refuses(t, "highest bits", h[:len(h)-2]+all[2:]+rest, plenty, api.ErrGzSum)
		refuses(t, "highest first", h[:len(h)-2]+all[1:2]+all[:1]+rest, plenty, api.ErrGzSum)
	}
}

func TestTheHeadsSumIsOfItsMemberAlone(t *testing.T) { // P9.1
	a := head(2, api.Member{Time: 5}) + stored("a") + end("a")
	b := head(2|8, api.Member{Name: "b"}) + stored("b") + end("b")
	tells(t, "two sums", a+b+a, plenty, api.Member{Time: 5, Data: "a"}, api.Member{Name: "b", Data: "b"}, api.Member{Time: 5, Data: "a"})
	h := head(8, api.Member{Name: "b"})
	h = h[:3] + "\x0a" + h[4:]
	refuses(t, "a sum of both", a+h+le(sum(a+h), 2)+stored("b")+end("b"), plenty, api.ErrGzSum)
}

func TestExtraOfEachSize(t *testing.T) { // P9.1, P9.2
	for _, n := range []int{0, 1, 2, 255, 256, 257, 65534, 65535} {
		m := api.Member{Extra: strings.Repeat("e", n), Data: "a"}
		what := fmt.Sprint("extra of ", n)
		h := head(4, m)
		tells(t, what, h+stored("a")+end("a"), plenty, m)
		if n > 0 {
			refuses(t, what+", a byte less", h[:len(h)-1], plenty, api.ErrGzEnd)
		}
		refuses(t, what+", no stream", h, plenty, api.ErrGzEnd)
		writes(t, what, m, 1)
	}
}

func TestStreamsThatAreNone(t *testing.T) { // P9.1
	for stream, want := range map[string]api.Errno{
		"":                             api.ErrInflateEnd,
		"\x4b":                         api.ErrInflateEnd,
		"\x4b\x04":                     api.ErrInflateEnd,
		"\x01\x01\x00\xfe":             api.ErrInflateEnd,
		"\x01\x01\x00\xfe\xff":         api.ErrInflateEnd,
		"\x00\x00\x00\xff\xff":         api.ErrInflateEnd, // not the last block
		"\x07" + "12345678":            api.ErrInflateBlock,
		"\x06" + "12345678":            api.ErrInflateBlock,
		"\x01\x01\x00\xfe\xfe1234567":  api.ErrInflateSize,
		"\xfd\xff\xff\xff" + "1234567": api.ErrInflateCode,
		"\x03\x02\x00\x00" + "1234567": api.ErrInflateBack, // a run where nothing stands
	} {
		if _, _, e := inflate.Inflate([]byte(stream), plenty); e != want {
			t.Fatalf("%x: Inflate says %d", stream, e)
		}
		says := api.ErrGzForm
		if want == api.ErrInflateEnd {
			says = api.ErrGzEnd
		}
		for flags := range byte(rightFlags) {
			what := fmt.Sprintf("flags %d, stream %x", flags, stream)
			refuses(t, what, head(flags, full)+stream, plenty, says)
			refuses(t, what+", behind another", one+head(flags, full)+stream, plenty, says)
		}
	}
}

func TestSumAndSizeOfTheData(t *testing.T) { // P9.1
	for _, m := range []api.Member{{}, {Data: "a"}, full} {
		s := head(0, m) + stored(m.Data) + end(m.Data)
		for bit := range 64 {
			wrong := turned(s, len(s)-8+bit/8, 1<<(bit%8))
			what := fmt.Sprintf("%q, bit %d", m.Data, bit)
			refuses(t, what, wrong, plenty, api.ErrGzSum)
			refuses(t, what+", another behind", wrong+one, plenty, api.ErrGzSum)
			refuses(t, what+", behind another", one+wrong, plenty, api.ErrGzSum)
			for few := 1; few <= 8; few++ { // asked once all eight are there
				refuses(t, fmt.Sprint(what, ", without ", few), wrong[:len(s)-few], plenty, api.ErrGzEnd)
			}
		}
	}
	wrong := head(0, full) + stored(full.Data)
	refuses(t, "size ahead of the sum", wrong+le(uint64(len(full.Data)), 4)+le(sum(full.Data), 4), plenty, api.ErrGzSum)
	refuses(t, "sum and size of all data so far", plain("a")+head(0, full)+stored("b")+end("ab"), plenty, api.ErrGzSum)
}

func TestMost(t *testing.T) { // P9.1
	for _, n := range []int{0, 1, 2, 10, 1000, 60000} {
		m := api.Member{Data: strings.Repeat("d", n)}
		for what, stream := range map[string]string{"stored": stored(m.Data), "small": string(deflate.Deflate([]byte(m.Data), 2))} {
			s := head(0, m) + stream + end(m.Data)
			what = fmt.Sprint(n, " bytes, ", what)
			for _, most := range []int{n, n + 1, plenty, math.MaxInt} {
				tells(t, fmt.Sprint(what, ", most ", most), s, most, m)
			}
			for _, most := range []int{math.MinInt, -n - 1, -1, 0, n / 2, n - 1} {
				switch {
				case n > 0 && most < n:
					refuses(t, fmt.Sprint(what, ", most ", most), s, most, api.ErrGzOver)
				case n == 0:
					tells(t, fmt.Sprint(what, ", most ", most), s, most, m)
				}
			}
		}
	}
}

func TestMostOfSeveralMembers(t *testing.T) { // P9.1
	parts := []string{"first", "", "second", "3rd", ""}
	s, told := "", 0
	var l []api.Member
	for _, p := range parts {
		s += plain(p)
		told += len(p)
		l = append(l, api.Member{Data: p})
		tells(t, "just as much", s, told, l...)
		tells(t, "more", s, told+1, l...)
		for most := -1; most < told; most++ { // reached in the first, at its end, in one of the others
			refuses(t, fmt.Sprint(len(l), " members, most ", most), s, most, api.ErrGzOver)
		}
	}
	empty := plain("")
	tells(t, "nothing, three times", empty+empty+empty, -5, api.Member{}, api.Member{}, api.Member{})
	tells(t, "greatest most", one+one, math.MaxInt, api.Member{Data: "a"}, api.Member{Data: "a"})
}

func TestWhatIsAmissFirstIsToldFirst(t *testing.T) { // P9.1
	badHead := turned(head(2, api.Member{}), 11, 1)
	data := "0123456789"
	wrongEnd := turned(end(data), 0, 1)
	notStream := "\x07" + strings.Repeat("x", 20)
	for i, c := range []struct {
		s    string
		most int
		want api.Errno
	}{
		{turned(one, 0, 1)[:9], 0, api.ErrGzEnd},    // the ten bytes, ahead of what they are
		{turned(one, 3, 32)[:10], 0, api.ErrGzForm}, // the flags, ahead of what is missing
		{turned(one, 3, 128|2|4) + notStream, 0, api.ErrGzForm},
		{badHead, 0, api.ErrGzSum}, // the head's sum, ahead of the stream
		{badHead + notStream, 0, api.ErrGzSum},
		{badHead + stored(data) + end(data), 3, api.ErrGzSum},
		{badHead[:11], 0, api.ErrGzEnd},
		{head(4|8|16|2, full)[:13], 0, api.ErrGzEnd},
		{head(0, full) + stored(data)[:5], 9, api.ErrGzOver}, // how many bytes, ahead of them
		{head(0, full) + stored(data)[:5], 10, api.ErrGzEnd},
		{head(0, full) + stored(data)[:4], 0, api.ErrGzEnd},
		{head(0, full) + turned(stored(data), 4, 1), 0, api.ErrGzForm}, // no block, ahead of how many bytes
		{head(0, full) + stored(data) + wrongEnd, 9, api.ErrGzOver},    // too much, ahead of the sum
		{head(0, full) + stored(data) + wrongEnd[:7], 10, api.ErrGzEnd},
		{head(0, full) + stored(data) + wrongEnd, 10, api.ErrGzSum},
		{head(0, full) + stored(data) + wrongEnd + "x", 10, api.ErrGzSum}, // a member, ahead of the next one
		{head(0, full) + stored(data) + wrongEnd + strings.Repeat("x", 10), 10, api.ErrGzSum},
		{head(0, full) + stored(data) + wrongEnd + plain("more"), 10, api.ErrGzSum},
		{plain(data) + strings.Repeat("x", 10), 9, api.ErrGzOver},
		{plain(data) + plain("more")[:9], 9, api.ErrGzOver},
		{plain(data) + plain("more")[:9], 10, api.ErrGzEnd},
		{plain(data) + badHead, 10, api.ErrGzSum},
		{plain(data) + plain("more"), 13, api.ErrGzOver},
		{plain(data) + head(0, full) + notStream, 10, api.ErrGzForm},
		{plain(data) + head(0, full) + "\x00\x01\x00\xfe\xff1" + notStream, 10, api.ErrGzOver}, // too much, ahead of the next block
		{plain(data) + head(0, full) + "\x00\x01\x00\xfe\xff1" + notStream, 11, api.ErrGzForm},
	} {
		refuses(t, fmt.Sprint("case ", i), c.s, c.most, c.want)
	}
}

func TestBytesBehindTheLastMember(t *testing.T) { // P9.1
	for n := 1; n < 40; n++ {
		want := api.ErrGzForm
		if n < 10 {
			want = api.ErrGzEnd
		}
		for _, fill := range []string{"\x00", "x", "\x1f", "\xff"} {
			refuses(t, fmt.Sprintf("%d bytes %q", n, fill), one+strings.Repeat(fill, n), plenty, want)
			refuses(t, fmt.Sprintf("%d bytes %q behind three", n, fill), one+one+one+strings.Repeat(fill, n), plenty, want)
		}
	}
}

func TestTurnedAndCutMembersAreReadAsTheModelSays(t *testing.T) { // P9.1
	r := rand.New(rand.NewSource(27))
	met := map[api.Errno]int{}
	for range 10000 {
		var s string
		told := 0
		for range 1 + r.Intn(3) {
			m := api.Member{Name: "n", Comment: "com", Extra: "\x01\x02", Time: r.Uint32(), Data: strings.Repeat("ab\x00", r.Intn(6))}
			s += head(byte(r.Intn(rightFlags)), m) + string(deflate.Deflate([]byte(m.Data), r.Intn(2))) + end(m.Data)
			told += len(m.Data)
		}
		for range r.Intn(3) {
			s = turned(s, r.Intn(len(s)), 1<<r.Intn(8))
		}
		if r.Intn(4) == 0 {
			s = s[:r.Intn(len(s)+1)]
		}
		most := plenty
		if r.Intn(2) == 0 {
			most = told + r.Intn(5) - 2
		}
		met[likeModel(t, fmt.Sprintf("%x, most %d", s, most), s, most)]++
	}
	for _, e := range []api.Errno{api.OK, api.ErrGzEnd, api.ErrGzForm, api.ErrGzSum, api.ErrGzOver} {
		if met[e] < 100 {
			t.Error("hardly met:", e, met[e])
		}
	}
}

func TestWhatGoWritesIsRead(t *testing.T) { // P9.1
	for i, m := range sample() {
		m.Text = false // Go's writer has no such flag
		m.Name, m.Comment = "name", strings.Repeat("c", i)
		for _, level := range []int{flate.NoCompression, flate.BestSpeed, flate.BestCompression, flate.HuffmanOnly} {
			var b bytes.Buffer
			w, _ := gzip.NewWriterLevel(&b, level)
			w.Name, w.Comment, w.Extra = m.Name, m.Comment, []byte(m.Extra)
			if m.Extra == "" {
				w.Extra = nil
			}
			if m.Time > 0 {
				w.ModTime = time.Unix(int64(m.Time), 0)
			}
			w.Write([]byte(m.Data))
			w.Close()
			tells(t, fmt.Sprint("member ", i, ", level ", level), b.String(), len(m.Data), m)
		}
	}
}

// writes holds Write against P9.2 and P9.4.
func writes(t *testing.T, what string, m api.Member, level int) string {
	t.Helper()
	b, ok := gz.Write(m, level)
	if !ok || string(b) != slowWrite(m, level) {
		t.Errorf("%s: Write is %.100x, %v", what, b, ok)
	}
	tells(t, what, string(b), len(m.Data), m)
	return string(b)
}

func TestWriteByteByByte(t *testing.T) { // P9.2
	for s, m := range map[string]api.Member{
		"\x1f\x8b\x08\x00\x00\x00\x00\x00\x00\xff":                                       {},
		"\x1f\x8b\x08\x01\x00\x00\x00\x00\x00\xff":                                       {Text: true},
		"\x1f\x8b\x08\x04\x00\x00\x00\x00\x00\xff\x02\x00xy":                             {Extra: "xy"},
		"\x1f\x8b\x08\x08\x00\x00\x00\x00\x00\xffname\x00":                               {Name: "name"},
		"\x1f\x8b\x08\x10\x00\x00\x00\x00\x00\xffc\x00":                                  {Comment: "c"},
		"\x1f\x8b\x08\x00\x04\x03\x02\x01\x00\xff":                                       {Time: 0x01020304},
		"\x1f\x8b\x08\x1d\xff\xff\xff\xff\x00\xff\x03\x00e\x00fn\x00c\x00":               {Text: true, Extra: "e\x00f", Name: "n", Comment: "c", Time: 1<<32 - 1},
		"\x1f\x8b\x08\x04\x00\x00\x00\x00\x00\xff\x00\x01" + strings.Repeat("\x00", 256): {Extra: strings.Repeat("\x00", 256)},
	} {
		m.Data = "a"
		b, ok := gz.Write(m, 0)
		if want := s + "\x01\x01\x00\xfe\xffa\x43\xbe\xb7\xe8\x01\x00\x00\x00"; !ok || string(b) != want {
			t.Errorf("%x, %v, not %x", b, ok, want)
		}
	}
}

func TestWhatIsWrittenIsReadAsItWas(t *testing.T) { // P9.2, P9.4
	for i, m := range sample() {
		for _, level := range []int{math.MinInt, -1, 0, 1, 2, 3, 4, 9, math.MaxInt} {
			what := fmt.Sprint("member ", i, ", level ", level)
			s := writes(t, what, m, level)
			if isASCII(m.Name + m.Comment) {
				goReads(t, what, s, m)
			}
		}
	}
	for flags := range byte(rightFlags) {
		if flags&2 == 0 {
			writes(t, fmt.Sprint("flags ", flags), keep(flags, full), 1)
		}
	}
	for _, when := range []uint32{0, 1, 255, 256, 1<<31 - 1, 1 << 31, 1<<32 - 1} {
		writes(t, fmt.Sprint("time ", when), api.Member{Time: when}, 1)
	}
}

func isASCII(s string) bool {
	return !strings.ContainsFunc(s, func(r rune) bool { return r > 127 })
}

func TestDataOfManySizes(t *testing.T) { // P9.2, P9.4
	for _, n := range []int{0, 1, 255, 256, 65535, 65536, 131070, 300000} {
		for _, level := range []int{0, 1, 3} {
			writes(t, fmt.Sprint(n, " bytes, level ", level), api.Member{Data: strings.Repeat("0123456789", n/10+1)[:n]}, level)
		}
	}
}

func TestLevelsBelowOneAreStored(t *testing.T) { // P9.2
	m := api.Member{Data: strings.Repeat("a", 1000)}
	for _, level := range []int{math.MinInt, -1, 0} {
		if b, _ := gz.Write(m, level); string(b) != plain(m.Data) {
			t.Errorf("level %d: %d bytes", level, len(b))
		}
	}
	for _, level := range []int{1, 2, math.MaxInt} {
		if b, _ := gz.Write(m, level); len(b) > 50 {
			t.Errorf("level %d: %d bytes", level, len(b))
		}
	}
}

func TestMembersThatAreRefused(t *testing.T) { // P9.2
	long := strings.Repeat("e", 65536)
	for i, m := range []api.Member{
		{Name: "\x00"},
		{Name: "a\x00"},
		{Name: "\x00a"},
		{Name: "a\x00b", Comment: "c", Extra: "e", Data: "d"},
		{Comment: "\x00"},
		{Comment: "c\x00"},
		{Comment: "\x00c", Name: "n"},
		{Extra: long},
		{Extra: long + long},
		{Extra: long[1:] + "\x00"},
		{Name: "\x00", Comment: "\x00", Extra: long},
		{Name: strings.Repeat("n", 70000) + "\x00"},
	} {
		for _, level := range []int{-1, 0, 1, 2} {
			if b, ok := gz.Write(m, level); ok || len(b) != 0 {
				t.Errorf("%d, level %d: %.100x, %v", i, level, b, ok)
			}
		}
	}
	// Just these are refused.
	writes(t, "long texts", api.Member{Name: long, Comment: long + long, Extra: long[1:]}, 1)
	writes(t, "bytes 0 in Extra and Data", api.Member{Extra: "\x00\x00", Data: "\x00"}, 1)
}

func TestSeveralMembersAreReadAsTheyWere(t *testing.T) { // P9.3, P9.4
	all := sample()
	var s, data string
	var l []api.Member
	for i := range 3 * len(all) {
		m := all[i*7%len(all)]
		s += writes(t, fmt.Sprint("member ", i), m, i%4)
		data += m.Data
		l = append(l, m)
		tells(t, fmt.Sprint(i+1, " members"), s, len(data), l...)
	}
	got, _ := gz.Read([]byte(s), len(data))
	if gz.Data(got) != data {
		t.Error("Data of all is not what they have together")
	}
	refuses(t, "one byte less", s, len(data)-1, api.ErrGzOver)
}

func TestDataOfMembers(t *testing.T) { // P9.3
	for want, l := range map[string][]api.Member{
		"":           nil,
		"a":          {{Data: "a"}},
		"ab":         {{Data: "a"}, {Data: "b"}},
		"ba":         {{Data: "b"}, {Data: "a"}},
		"x\x00y\xff": {{Data: "x\x00"}, {}, {Data: "y", Name: "no", Comment: "no", Extra: "no", Text: true, Time: 7}, {Data: "\xff"}},
	} {
		before := slices.Clone(l)
		if got := gz.Data(l); got != want {
			t.Errorf("%q, not %q", got, want)
		}
		if !slices.Equal(l, before) {
			t.Errorf("%q: the members were changed", want)
		}
	}
	for _, l := range [][]api.Member{{}, {{}}, {{}, {Name: "n"}}} {
		if got := gz.Data(l); got != "" {
			t.Errorf("%q of empty ones", got)
		}
	}
}

func TestWhatIsToldIsTheCallersOwn(t *testing.T) { // P9.1, P9.2 with R5, R6, R7
	s := head(4|8|16, full) + stored(full.Data) + end(full.Data)
	b := []byte(s)
	l, _ := gz.Read(b, plenty)
	clear(b)
	if want := keep(4|8|16, full); len(l) != 1 || l[0] != want {
		t.Errorf("%s after the bytes were written into", shown(l))
	}
	clear(l)
	tells(t, "once more", s, plenty, keep(4|8|16, full))
	for _, level := range []int{0, 1} {
		first, _ := gz.Write(full, level)
		want := string(first)
		clear(first)
		if again, ok := gz.Write(full, level); !ok || string(again) != want {
			t.Errorf("level %d: %x once more", level, again)
		}
	}
	// Nothing behind the end of what is given is touched.
	room := []byte(one + "behind")
	if _, e := gz.Read(room[:len(one)], 1); e != api.OK || string(room) != one+"behind" {
		t.Errorf("%q %d", room, e)
	}
}
