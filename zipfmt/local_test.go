package zipfmt_test

import (
	"fmt"
	"strings"
	"testing"

	"wainload/api"
)

// What stands ahead of the directory: local headers, the bytes inside, and what is behind them.

func TestReadOfLocalHeadersAmiss(t *testing.T) { // P18.2
	for what, do := range map[string]func(p *part){
		"no mark":                   func(p *part) { p.local.mark = "\x00\x00\x00\x00" },
		"the record's mark":         func(p *part) { p.local.mark = "PK\x01\x02" },
		"a mark's last letter":      func(p *part) { p.local.mark = "PK\x03\x05" },
		"a byte ahead":              func(p *part) { p.local.mark = "xPK\x03\x04" },
		"a byte not there":          func(p *part) { p.local.mark = "K\x03\x04" },
		"a flag more":               func(p *part) { p.local.flags |= 2 },
		"a flag less":               func(p *part) { p.local.flags = 0 },
		"a flag more in the record": func(p *part) { p.record.flags |= 4 },
		"bit 8 there alone":         func(p *part) { p.local.flags |= 8 },
		"a flag that may not be":    func(p *part) { p.local.flags |= 1 << 15 },
		"another method":            func(p *part) { p.local.method = 8 },
		"a method of none":          func(p *part) { p.local.method = 256 },
		"another letter":            func(p *part) { p.local.name = "c" },
		"a great letter":            func(p *part) { p.local.name = "B" },
		"a longer name":             func(p *part) { p.local.name = "bb" },
		"a name with a slash":       func(p *part) { p.local.name = "b/" },
		"a shorter name":            func(p *part) { p.record.name = "bb" },
		"no name":                   func(p *part) { p.local.name = "" },
		"a name told longer":        func(p *part) { p.local.moreName = 1 },
		"a name told shorter":       func(p *part) { p.local.moreName = -1 },
		"a name told far longer":    func(p *part) { p.local.moreName = 65534 },
		"an extra told far longer":  func(p *part) { p.local.moreExtra = 65535 },
	} {
		a, b, c := partFile("a", "d"), partFile("b", "e"), partFile("c", "f")
		refuses(t, what, zip(b.with(do)), 9, 9, api.ErrZipForm)
		refuses(t, what+", first", zip(b.with(do), c), 9, 9, api.ErrZipForm)
		refuses(t, what+", last", zip(a, b.with(do)), 9, 9, api.ErrZipForm)
	}
	for what, do := range map[string]func(p *part){
		"the other method, of a stream": func(p *part) { p.local.method = 0 },
		"a sealed method":               func(p *part) { p.local.method = 99 },
	} {
		refuses(t, what, zip(partFile("b", "ee").small().with(do)), 9, 9, api.ErrZipForm)
	}
}

func TestReadOfLocalHeadersThatAreNotThere(t *testing.T) { // P18.2
	a, b := partFile("a", "d"), partFile("b", "e")
	s := zip(a, b)
	begins := len(a.front() + b.front())
	at := len(a.front())
	tells(t, "there", zip(a, b.at(at)), 2, 2, file("a", "d"), file("b", "e"))
	for place := range len(s) + 5 {
		if place != at {
			refuses(t, fmt.Sprint("at ", place), zip(a, b.at(place)), 2, 2, api.ErrZipForm)
		}
	}
	for _, place := range []int{1 << 31, 1<<31 + at, full - 1, full} {
		refuses(t, fmt.Sprint("at ", place), zip(a, b.at(place)), 2, 2, api.ErrZipForm)
	}
	refuses(t, "no front", but(func(e *ending) { e.front, e.begins = "", 0 }, a), 1, 1, api.ErrZipForm)
	for cut := 1; cut <= begins; cut++ { // less and less of the front is there
		s := but(func(e *ending) { e.front, e.begins = e.front[:begins-cut], begins-cut }, a, b)
		refuses(t, fmt.Sprint("without the last ", cut), s, 2, 2, api.ErrZipForm)
	}
	// A local header that stands in a comment of the directory, or in the end's, does not count.
	inComment := a.with(func(p *part) { p.comment = a.front() })
	e := endingOf(inComment)
	e.front, e.begins = "", 0
	e.records = inComment.recordAt(e.size - len(a.front()))
	refuses(t, "in a comment of the directory", e.bytes(), 1, 1, api.ErrZipForm)
	e = endingOf(a)
	e.front, e.begins, e.comment = "", 0, a.front()
	e.records = a.recordAt(e.size + 22)
	refuses(t, "in the end's comment", e.bytes(), 1, 1, api.ErrZipForm)
	refuses(t, "beyond, though there", but(func(e *ending) {
		e.records += e.front
		e.front, e.begins, e.size = "", 0, len(e.records)
	}, a), 1, 1, api.ErrZipForm)
}

// Without the bit 8 each number is the directory's; a number of bytes may be full.
func TestReadOfLocalNumbers(t *testing.T) { // P18.2
	stored, deflated := partFile("a", "some"), partFile("a", strings.Repeat("some", 9)).small()
	for what, p := range map[string]part{"stored": stored, "deflated": deflated, "sealed": stored.sealed(2, 1), "sealed 1": stored.sealed(1, 1)} {
		want := file("a", "some")
		if what == "deflated" {
			want = file("a", strings.Repeat("some", 9))
		}
		for more, do := range map[string]func(h *head){
			"a sum":             func(h *head) { h.sum ^= 1 },
			"a sum's high bit":  func(h *head) { h.sum ^= 1 << 31 },
			"a full sum":        func(h *head) { h.sum = full },
			"inside, more":      func(h *head) { h.inside++ },
			"inside, less":      func(h *head) { h.inside-- },
			"inside, 0":         func(h *head) { h.inside = 0 },
			"inside, high":      func(h *head) { h.inside += 1 << 24 },
			"inside, near full": func(h *head) { h.inside = full - 1 },
			"size, more":        func(h *head) { h.size++ },
			"size, less":        func(h *head) { h.size-- },
			"size, 0":           func(h *head) { h.size = 0 },
			"size, near full":   func(h *head) { h.size = full - 1 },
			"all 0":             func(h *head) { h.sum, h.inside, h.size = 0, 0, 0 },
			"all full":          func(h *head) { h.sum, h.inside, h.size = full, full, full },
			"full and a sum":    func(h *head) { h.sum, h.inside, h.size = h.sum+1, full, full },
		} {
			more = what + ", " + more
			refuses(t, more, zip(p.with(func(p *part) { do(&p.local) })), 99, 1, api.ErrZipForm)
			refuses(t, more+", in a local field", zip(p.with(func(p *part) {
				do(&p.local)
				p.local.extra = field(1, le(p.record.size, 8)+le(p.record.inside, 8))
			})), 99, 1, api.ErrZipForm)
			tells(t, more+", late", zip(p.late("PK\x07\x08").with(func(p *part) { do(&p.local) })), 99, 1, want)
		}
		for more, do := range map[string]func(h *head){
			"inside is full": func(h *head) { h.inside = full },
			"size is full":   func(h *head) { h.size = full },
			"both are full":  func(h *head) { h.inside, h.size = full, full },
		} {
			q := p.with(func(p *part) { do(&p.local) })
			tells(t, what+", "+more, zip(q), 99, 1, want)
			tells(t, what+", "+more+", with a field", zip(q.with(func(p *part) { p.local.extra = field(1, le(p.record.size, 8)+le(p.record.inside, 8)) })), 99, 1, want)
			tells(t, what+", "+more+", with a field of others", zip(q.with(func(p *part) { p.local.extra = field(1, le(77, 8)+le(77, 8)) })), 99, 1, want)
			tells(t, what+", "+more+", here and there", zip(wideOf(q, true, true, false, 0)), 99, 1, want)
		}
	}
	refuses(t, "the directory's sum is full", zip(partFile("a", "some").both(func(h *head) { h.sum = full })), 99, 1, api.ErrZipSum)
	for bit := range 32 {
		refuses(t, fmt.Sprint("bit of a sum ", bit), zip(stored.with(func(p *part) { p.local.sum ^= 1 << bit })), 99, 1, api.ErrZipForm)
		refuses(t, fmt.Sprint("bit of both sums ", bit), zip(stored.both(func(h *head) { h.sum ^= 1 << bit })), 99, 1, api.ErrZipSum)
		refuses(t, fmt.Sprint("bit of a size ", bit), zip(stored.with(func(p *part) { p.local.size ^= 1 << bit })), 99, 1, api.ErrZipForm)
		refuses(t, fmt.Sprint("bit of what is inside ", bit), zip(stored.with(func(p *part) { p.local.inside ^= 1 << bit })), 99, 1, api.ErrZipForm)
	}
}

// The bytes inside end where the directory begins, at the latest.
func TestReadOfBytesThatRunIntoTheDirectory(t *testing.T) { // P18.2
	a, b := partFile("a", "d"), partFile("b", "some")
	for more := 1; more < 60; more++ {
		what := fmt.Sprint(more, " bytes too many")
		long := b.both(func(h *head) { h.inside, h.size = 4+more, 4+more })
		refuses(t, what, zip(a, long), 99, 2, api.ErrZipForm)
		rest := strings.Repeat("x", more)
		long = long.both(func(h *head) { h.sum = sumOf("some" + rest) })
		tells(t, what+", and they are there", but(func(e *ending) { e.front, e.begins = e.front+rest, e.begins+more }, a, long), 99, 2, file("a", "d"), file("b", "some"+rest))
	}
	// They may run into what stands ahead of the directory, as another local header.
	inner := zip(partFile("x", "y"))
	outer := partFile("b", inner)
	tells(t, "one within the other", but(func(e *ending) {
		e.records += partFile("x", "y").recordAt(len(outer.front()) - len(inner))
		e.size, e.many, e.all = len(e.records), 2, 2
	}, outer), 999, 2, file("b", inner), file("x", "y"))
	q := partFile("b", "some").with(func(p *part) { p.local.moreExtra = 5 })
	refuses(t, "an extra that runs into the directory", zip(a, q), 99, 2, api.ErrZipForm)
	q = partFile("b", "some").with(func(p *part) { p.local.moreExtra, p.body = 2, "xxsome" })
	tells(t, "an extra that isn't", zip(a, q), 99, 2, file("a", "d"), file("b", "some"))
	q = partFile("b", "").with(func(p *part) { p.local.moreExtra = 1 })
	refuses(t, "an extra of no byte inside", zip(a, q), 99, 2, api.ErrZipForm)
}

func TestReadOfSumsBehind(t *testing.T) { // P18.2
	a, c := partFile("a", "d"), partFile("c", "f")
	for what, b := range map[string]part{"stored": partFile("b", "some"), "deflated": partFile("b", "some").small(), "sealed": partFile("b", "some").sealed(2, 2), "sealed 1": partFile("b", "some").small().sealed(1, 1)} {
		for _, mark := range []string{"", "PK\x07\x08"} {
			what := fmt.Sprintf("%s %q", what, mark)
			p := b.late(mark)
			tells(t, what, zip(p), 4, 1, file("b", "some"))
			tells(t, what+", between", zip(a, p, c), 6, 3, file("a", "d"), file("b", "some"), file("c", "f"))
			tells(t, what+", all numbers ahead, too", zip(p.with(func(p *part) {
				p.local.sum, p.local.inside, p.local.size = p.record.sum, p.record.inside, p.record.size
			})), 4, 1, file("b", "some"))
			tells(t, what+", and more behind it", zip(p.with(func(p *part) { p.behind += "more" })), 4, 1, file("b", "some"))
			tells(t, what+", wide", zip(wideOf(p, true, true, true, 0)), 4, 1, file("b", "some"))
			for at := range p.behind {
				for bit := range 8 {
					behind := []byte(p.behind)
					behind[at] ^= 1 << bit
					q := p.with(func(p *part) { p.behind = string(behind) })
					refuses(t, fmt.Sprint(what, ", behind ", at, bit), zip(q), 4, 1, api.ErrZipForm)
					refuses(t, fmt.Sprint(what, ", between, behind ", at, bit), zip(a, q, c), 6, 3, api.ErrZipForm)
				}
			}
			for cut := range len(p.behind) {
				q := p.with(func(p *part) { p.behind = p.behind[:cut] })
				refuses(t, fmt.Sprint(what, ", cut at ", cut), zip(q), 4, 1, api.ErrZipForm)
				refuses(t, fmt.Sprint(what, ", between, cut at ", cut), zip(a, q, c), 6, 3, api.ErrZipForm)
			}
			refuses(t, what+", a byte ahead", zip(p.with(func(p *part) { p.behind = "x" + p.behind })), 4, 1, api.ErrZipForm)
			refuses(t, what+", of eight bytes", zip(p.with(func(p *part) {
				p.behind = mark + le(p.record.sum, 4) + le(p.record.inside, 8) + le(p.record.size, 8)
			})), 4, 1, api.ErrZipForm)
		}
		refuses(t, what+", another mark", zip(b.late("PK\x03\x04")), 4, 1, api.ErrZipForm)
		refuses(t, what+", both marks", zip(b.late("PK\x07\x08PK\x07\x08")), 4, 1, api.ErrZipForm)
		tells(t, what+", behind though it need not be", zip(b.with(func(p *part) { p.behind = "anything" })), 4, 1, file("b", "some"))
		refuses(t, what+", not late", zip(b.late("").both(func(h *head) { h.flags &^= 8 })), 4, 1, api.ErrZipForm)
	}
	// With the bytes inside the numbers end where the directory begins.
	p := partFile("b", "some").late("PK\x07\x08")
	for cut := 1; cut <= 16; cut++ {
		q := p.with(func(p *part) { p.behind = p.behind[:16-cut] })
		e := endingOf(q)
		s := e.bytes()
		refuses(t, fmt.Sprint("they run into the directory by ", cut), s, 4, 1, api.ErrZipForm)
	}
	refuses(t, "a name that ends with all of them does not count", zip(partFile("b"+le(4, 4), "some").flagged(8)), 4, 1, api.ErrZipForm)
}

// withSum is a text of that sum.
func withSum(sum int) string {
	const s = "some"
	return s + le(int(turnedBack(uint32(sum), ^uint32(sumOf(s)))), 4)
}

// turnedBack tells the four bytes (as a number) that lead from a register to such a sum.
func turnedBack(sum, register uint32) uint32 {
	v := ^sum
	for range 32 {
		if v>>31 != 0 {
			v = (v^0xedb88320)<<1 | 1
		} else {
			v <<= 1
		}
	}
	return v ^ register
}

// A sum may look like the mark. First it is asked with the mark, and then without.
func TestReadOfSumsThatLookLikeTheMark(t *testing.T) { // P18.2
	const look = 0x08074b50
	data := withSum(look)
	if sumOf(data) != look {
		t.Fatalf("%q %x", data, sumOf(data))
	}
	p := partFile("b", data)
	a := partFile("a", "d")
	for _, q := range []part{p, p.small(), p.sealed(1, 1)} {
		tells(t, "without a mark", zip(q.late("")), 9, 1, file("b", data))
		tells(t, "with a mark", zip(q.late("PK\x07\x08")), 9, 1, file("b", data))
		tells(t, "without a mark, between", zip(q.late(""), a), 9, 2, file("a", "d"), file("b", data))
		tells(t, "with a mark, between", zip(q.late("PK\x07\x08"), a), 9, 2, file("a", "d"), file("b", data))
		refuses(t, "with two marks", zip(q.late("PK\x07\x08PK\x07\x08")), 9, 1, api.ErrZipForm)
		refuses(t, "only the mark", zip(q.late("").with(func(p *part) { p.behind = p.behind[4:] })), 9, 1, api.ErrZipForm)
		tells(t, "a mark that is the sum", zip(q.late("PK\x07\x08").with(func(p *part) { p.behind = "PK\x07\x08" + p.behind[8:] })), 9, 1, file("b", data))
	}
}
