package zipfmt_test

import (
	"bytes"
	"compress/flate"
	"fmt"
	"math/rand"
	"slices"
	"strings"
	"testing"

	"wainload/api"
	"wainload/zipfmt"
)

// The bytes inside: sealed, deflated, stored, and the sum of what they were made of.

func readWith(t *testing.T, what, b, password string, want []api.Entry, wanted api.Errno) {
	t.Helper()
	l, err := readOf(t, what, b, password, plenty, plenty)
	if err != wanted || !slices.Equal(l, want) {
		t.Errorf("%s: %v, %s; want %v, %s", what, err, shown(l), wanted, shown(want))
	}
	if l, err := slowRead(b, password, plenty, plenty); err != wanted || !slices.Equal(l, want) {
		t.Errorf("%s, the model: %v, %s; want %v, %s", what, err, shown(l), wanted, shown(want))
	}
}

func TestReadOfWhatIsSealed(t *testing.T) { // P18.2
	for _, data := range []string{"", "s", "some", strings.Repeat("some data ", 30)} {
		for version := 1; version <= 2; version++ {
			for strength := 1; strength <= 3; strength++ {
				what := fmt.Sprint(len(data), " bytes, version ", version, ", strength ", strength)
				stored, small := partFile("a", data).sealed(version, strength), partFile("a", data).small().sealed(version, strength)
				tells(t, what, zip(stored), len(data), 1, file("a", data))
				tells(t, what+", deflated", zip(small), len(data), 1, file("a", data))
				refuses(t, what+", a byte less", zip(small), len(data)-1, 1, api.ErrTreeOver)
			}
		}
	}
	tells(t, "a Link", zip(partLink("a", "to").sealed(2, 1)), 2, 1, link("a", "to"))
	tells(t, "a Folder", zip(partFolder("a").sealed(2, 1)), 0, 1, folder("a"))
	tells(t, "a Folder, deflated", zip(partFolder("a").small().sealed(1, 1)), 0, 1, folder("a"))
}

func TestReadWithPasswords(t *testing.T) { // P18.2
	sealed, stored := partFile("a", "some").sealed(2, 1), partFile("b", "more")
	both := []api.Entry{file("a", "some"), file("b", "more")}
	readWith(t, "the right one", zip(sealed, stored), word, both, api.OK)
	for _, password := range []string{"", "p", "passwor", "password ", "Password", "password\x01", "q", strings.Repeat("password", 40), "\xff"} {
		what := fmt.Sprintf("%q", password)
		readWith(t, what, zip(sealed, stored), password, nil, api.ErrZipTag)
		readWith(t, what+", last", zip(stored, sealed), password, nil, api.ErrZipTag)
		readWith(t, what+", none is sealed", zip(stored), password, both[1:], api.OK)
	}
}

func TestReadOfSealsTurned(t *testing.T) { // P18.2
	for version := 1; version <= 2; version++ {
		s := partFile("a", "some").sealed(version, 1)
		for at := range s.body {
			for _, bit := range []int{0, 3, 7} {
				q := s.with(func(p *part) {
					b := []byte(p.body)
					b[at] ^= 1 << bit
					p.body = string(b)
				})
				refuses(t, fmt.Sprint("byte ", at, ", bit ", bit), zip(q), 4, 1, api.ErrZipTag)
			}
		}
	}
	s := partFile("a", "some").small().sealed(1, 1)
	refuses(t, "a tag, and no stream", zip(s.with(func(p *part) { p.body = p.body[:len(p.body)-1] + "x" })), 4, 1, api.ErrZipTag)
}

func TestReadOfSealsWithTooFewBytes(t *testing.T) { // P18.2
	for strength := 1; strength <= 3; strength++ {
		s := partFile("a", "some").sealed(2, strength)
		least := 4 + 4*strength + 2 + 10
		for n := range len(s.body) {
			q := s.with(func(p *part) { p.body = p.body[:n] }).both(func(h *head) { h.inside = n })
			what := fmt.Sprint("strength ", strength, ", ", n, " bytes")
			if n < least {
				refuses(t, what, zip(q), 4, 1, api.ErrZipForm)
			} else {
				refuses(t, what, zip(q), 4, 1, api.ErrZipTag)
			}
		}
		q := s.with(func(p *part) { p.body += "x" }).both(func(h *head) { h.inside++ })
		refuses(t, fmt.Sprint("strength ", strength, ", a byte more"), zip(q), 4, 1, api.ErrZipTag)
	}
	s := partFile("a", "some").sealed(2, 2)
	other := func(strength int) part {
		return s.with(func(p *part) { p.record.extra = sealField(2, strength, 0) })
	}
	refuses(t, "less strength than it was sealed with", zip(other(1)), 4, 1, api.ErrZipTag)
	refuses(t, "more strength, and there are bytes enough", zip(other(3)), 4, 1, api.ErrZipTag)
}

// What was sealed is told only if all is right with it: of version 1 the sum, of version 2 a sum 0.
func TestReadOfSumsOfWhatIsSealed(t *testing.T) { // P18.2
	one, two := partFile("a", "some").sealed(1, 1), partFile("a", "some").sealed(2, 1)
	tells(t, "version 1", zip(one), 4, 1, file("a", "some"))
	tells(t, "version 2", zip(two), 4, 1, file("a", "some"))
	for bit := range 32 {
		refuses(t, fmt.Sprint("version 1, bit ", bit), zip(one.both(func(h *head) { h.sum ^= 1 << bit })), 4, 1, api.ErrZipSum)
		refuses(t, fmt.Sprint("version 2, bit ", bit), zip(two.both(func(h *head) { h.sum ^= 1 << bit })), 4, 1, api.ErrZipForm)
	}
	refuses(t, "version 1 and no sum", zip(one.both(func(h *head) { h.sum = 0 })), 4, 1, api.ErrZipSum)
	refuses(t, "version 2 and the sum", zip(two.both(func(h *head) { h.sum = sumOf("some") })), 4, 1, api.ErrZipForm)
	tells(t, "version 1 of nothing", zip(partFile("a", "").sealed(1, 1)), 0, 1, file("a", ""))
	tells(t, "version 2 of nothing", zip(partFile("a", "").sealed(2, 1)), 0, 1, file("a", ""))
	refuses(t, "version 1, as if it were 2", zip(one.with(func(p *part) { p.record.extra = sealField(2, 1, 0) })), 4, 1, api.ErrZipForm)
	refuses(t, "version 2, as if it were 1", zip(two.with(func(p *part) { p.record.extra = sealField(1, 1, 0) })), 4, 1, api.ErrZipSum)
	refuses(t, "not encrypted, and no sum", zip(partFile("a", "some").both(func(h *head) { h.sum = 0 })), 4, 1, api.ErrZipSum)
}

func TestReadOfInnerMethods(t *testing.T) { // P18.2
	stored, deflated := partFile("a", "some").sealed(2, 1), partFile("a", "some").small().sealed(2, 1)
	refuses(t, "stored, as if deflated", zip(stored.with(func(p *part) { p.record.extra = sealField(2, 1, 8) })), 4, 1, api.ErrZipForm)
	refuses(t, "deflated, as if stored", zip(deflated.with(func(p *part) { p.record.extra = sealField(2, 1, 0) })), 4, 1, api.ErrZipForm)
}

// streamsOf are streams of the same data, in blocks of each kind.
func streamsOf(t *testing.T, data string) []string {
	t.Helper()
	var l []string
	for _, level := range []int{flate.NoCompression, flate.BestSpeed, flate.BestCompression, flate.HuffmanOnly} {
		var b bytes.Buffer
		w, err := flate.NewWriter(&b, level)
		if err != nil {
			t.Fatal(err)
		}
		for at := 0; at < len(data); at += 100 {
			w.Write([]byte(data[at:min(at+100, len(data))]))
			w.Flush()
		}
		w.Close()
		l = append(l, b.String())
	}
	return l
}

func (p part) streamed(stream string) part {
	p.body = stream
	return p.both(func(h *head) { h.method, h.inside = 8, len(stream) })
}

func TestReadOfStreams(t *testing.T) { // P18.2
	r := rand.New(rand.NewSource(1))
	for _, n := range []int{0, 1, 2, 99, 100, 101, 1000, 70000} {
		b := make([]byte, n)
		for at := range b {
			b[at] = byte(r.Intn(4))
		}
		data := string(b)
		for kind, stream := range streamsOf(t, data) {
			what := fmt.Sprint(n, " bytes, kind ", kind)
			p := partFile("a", data).streamed(stream)
			tells(t, what, zip(p), n, 1, file("a", data))
			tells(t, what+", much may be", zip(p), plenty, 1, file("a", data))
			refuses(t, what+", a byte too many", zip(p), n-1, 1, api.ErrTreeOver)
			refuses(t, what+", bytes behind it", zip(p.streamed(stream+"\x00")), n, 1, api.ErrZipForm)
			refuses(t, what+", another behind it", zip(p.streamed(stream+"\x03\x00")), n, 1, api.ErrZipForm)
			refuses(t, what+", more is said", zip(p.both(func(h *head) { h.size++ })), plenty, 1, api.ErrZipForm)
			if n > 0 {
				refuses(t, what+", less is said", zip(p.both(func(h *head) { h.size-- })), plenty, 1, api.ErrZipForm)
				refuses(t, what+", nothing is said", zip(p.both(func(h *head) { h.size = 0 })), plenty, 1, api.ErrZipForm)
			}
			for cut := 0; cut < len(stream); cut += 1 + len(stream)/50 {
				refuses(t, fmt.Sprint(what, ", cut at ", cut), zip(p.streamed(stream[:cut])), plenty, 1, api.ErrZipForm)
			}
		}
	}
	for _, none := range []string{"", "\x07", "\x06\x00", "\x01\x01\x00\x00\x00", "\x02\x00"} {
		refuses(t, fmt.Sprintf("no stream: %q", none), zip(partFile("a", "").streamed(none)), plenty, 1, api.ErrZipForm)
	}
	back := partFile("a", "some").streamed("\x4b\x04\x22\x00\x00") // a run that reaches back too far, or such
	likeModel(t, "a run", zip(back), plenty, 1)
}

func TestReadOfSumsOfStreams(t *testing.T) { // P18.2
	p := partFile("a", "some").small()
	other := partFile("a", "sAme").small()
	refuses(t, "of other data", zip(p.streamed(other.body)), 4, 1, api.ErrZipSum)
	refuses(t, "of the stream", zip(p.both(func(h *head) { h.sum = sumOf(p.body) })), 4, 1, api.ErrZipSum)
	refuses(t, "of other data, stored", zip(partFile("a", "some").with(func(p *part) { p.body = "sAme" })), 4, 1, api.ErrZipSum)
	for at := range "some" {
		for bit := range 8 {
			b := []byte("some")
			b[at] ^= 1 << bit
			refuses(t, "a bit turned", zip(partFile("a", "some").with(func(p *part) { p.body = string(b) })), 4, 1, api.ErrZipSum)
		}
	}
}

func TestReadOfStoredNumbers(t *testing.T) { // P18.2
	for _, data := range []string{"", "s", "some", strings.Repeat("s", 70000)} {
		p := partFile("a", data)
		what := fmt.Sprint(len(data), " bytes")
		tells(t, what, zip(p), len(data), 1, file("a", data))
		refuses(t, what+", more is said", zip(p.both(func(h *head) { h.size++ })), plenty, 1, api.ErrZipForm)
		refuses(t, what+", more is inside", zip(p.both(func(h *head) { h.inside++ }).with(func(p *part) { p.body += "x" })), plenty, 1, api.ErrZipForm)
		if data != "" {
			refuses(t, what+", less is said", zip(p.both(func(h *head) { h.size-- })), plenty, 1, api.ErrZipForm)
			refuses(t, what+", less is inside", zip(p.both(func(h *head) { h.inside-- })), plenty, 1, api.ErrZipForm)
		}
	}
}

// Beside an error there is nothing, and what was told is the caller's own.
func TestReadTwice(t *testing.T) { // P18.1
	b := []byte(zip(partFile("a", "some"), partFile("b", "more").small(), partFile("c", "sealed").sealed(2, 1)))
	want := []api.Entry{file("a", "some"), file("b", "more"), file("c", "sealed")}
	first, err := zipfmt.Read(b, word, 14, 3)
	if err != api.OK || !slices.Equal(first, want) {
		t.Fatal(err, shown(first))
	}
	second, _ := zipfmt.Read(b, word, 14, 3)
	for at := range first {
		first[at] = api.Entry{}
	}
	clear(b)
	if !slices.Equal(second, want) {
		t.Error("what was told is changed by what was given", shown(second))
	}
	again, err := zipfmt.Read([]byte(zip(partFile("a", "some"), partFile("b", "more").small(), partFile("c", "sealed").sealed(2, 1))), word, 14, 3)
	if err != api.OK || !slices.Equal(again, want) {
		t.Error("not the same again", err, shown(again))
	}
}

// What lies behind a list that is handed in is neither read nor written.
func TestReadWithinAGreaterList(t *testing.T) { // P18.1
	s := zip(partFile("a", "some"), partFile("b", "more").small(), partFile("c", "sealed").sealed(2, 1))
	whole := []byte("ahead" + s + "behind")
	l, err := zipfmt.Read(whole[5:5+len(s)], word, 14, 3)
	if err != api.OK || len(l) != 3 || string(whole) != "ahead"+s+"behind" {
		t.Error(err, shown(l))
	}
}
