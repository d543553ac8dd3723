package zipfmt_test

import (
	"fmt"
	"math"
	"strings"
	"testing"

	"wainload/api"
)

// An entry of the directory: its numbers, its fields, its flags and its method.

func TestReadOfRecordsAmiss(t *testing.T) { // P18.2
	for what, do := range map[string]func(p *part){
		"a mark":               func(p *part) { p.record.mark = "PK\x03\x04" },
		"no mark":              func(p *part) { p.record.mark = "\x00\x00\x00\x00" },
		"a mark's last letter": func(p *part) { p.record.mark = "PK\x01\x03" },
		"a disk":               func(p *part) { p.disk = 1 },
		"a high disk":          func(p *part) { p.disk = 256 },
		"a full disk":          func(p *part) { p.disk = 65535 },
	} {
		a, b, c := partFile("a", "d"), partFile("b", "e").with(do), partFile("c", "f")
		refuses(t, what, zip(b), 9, 9, api.ErrZipForm)
		refuses(t, what+", first", zip(b, c), 9, 9, api.ErrZipForm)
		refuses(t, what+", last", zip(a, b), 9, 9, api.ErrZipForm)
	}
}

// Versions, the clock's numbers and such stand for nothing that an entry has.
func TestReadOfNumbersThatStandForNothing(t *testing.T) { // P18.2
	for what, do := range map[string]func(p *part){
		"who made it":         func(p *part) { p.by = 255 },
		"a version":           func(p *part) { p.record.version = 65535 },
		"no version":          func(p *part) { p.record.version, p.local.version, p.by = 0, 0, 0 },
		"a local version":     func(p *part) { p.local.version = 0x3f2d },
		"inner attributes":    func(p *part) { p.inner = 65535 },
		"lower attributes":    func(p *part) { p.attributes |= 65535 },
		"a local clock":       func(p *part) { p.local.clock, p.local.day = 0, 65535 },
		"a comment":           func(p *part) { p.comment = "a comment\x00PK\x01\x02" },
		"fields":              func(p *part) { p.record.extra = field(1234, "text") + field(0, "") },
		"a local extra":       func(p *part) { p.local.extra = "no field" },
		"a local field":       func(p *part) { p.local.extra = field(10, "x") },
		"a local time":        func(p *part) { p.local.extra = field(0x5455, "\x01\x00\x00\x00\x00") },
		"a local name":        func(p *part) { p.local.extra = field(0x7075, "\x01"+le(sumOf("b"), 4)+"other") },
		"wide numbers, local": func(p *part) { p.local.extra = field(1, le(1, 8)+le(1, 8)) },
	} {
		tells(t, what, zip(partFile("a", "d"), partFile("b", "e").with(do), partFile("c", "f")), 3, 3, file("a", "d"), file("b", "e"), file("c", "f"))
	}
}

func TestReadOfFieldsCutOff(t *testing.T) { // P18.2
	fields := field(1, "") + field(0x1234, "text") + field(10, "") + field(0xffff, "\x00")
	whole := map[int]bool{0: true, 4: true, 12: true, 16: true, 21: true}
	for cut := range len(fields) + 1 {
		what := fmt.Sprint("cut at ", cut)
		s := zip(partFile("a", "d").extra(fields[:cut]), partFile("b", "e"))
		if whole[cut] {
			tells(t, what, s, 2, 2, file("a", "d"), file("b", "e"))
		} else {
			refuses(t, what, s, 2, 2, api.ErrZipForm)
		}
		if whole[cut] {
			continue
		}
		// The rest stands behind, as a comment, or in the next record; it does not count.
		refuses(t, what+", and a comment", zip(partFile("a", "d").extra(fields[:cut]).with(func(p *part) { p.comment = fields[cut:] })), 2, 2, api.ErrZipForm)
	}
	for _, n := range []int{5, 6, 255, 256, 65535} {
		refuses(t, fmt.Sprint("a field of ", n), zip(partFile("a", "d").extra(le(77, 2)+le(n, 2)+"text")), 2, 2, api.ErrZipForm)
	}
	refuses(t, "a field that is too short by one", zip(partFile("a", "d").extra(le(77, 2)+le(3, 2)+"text")), 2, 2, api.ErrZipForm)
	long := strings.Repeat(field(77, strings.Repeat("f", 996)), 65)
	tells(t, "many fields", zip(partFile("a", "d").extra(long)), 2, 2, file("a", "d"))
	tells(t, "one long field", zip(partFile("a", "d").extra(field(77, strings.Repeat("f", 65531)))), 2, 2, file("a", "d"))
}

func TestReadOfTwoFieldsOfOneId(t *testing.T) { // P18.2
	one, two := field(0x5455, "\x01"+le(5, 4)), field(0x5455, "\x01"+le(6, 4))
	between := field(0x1234, "between")
	tells(t, "the first counts", zip(partFile("a", "").extra(one+two)), 0, 1, withTime(file("a", ""), 5*sec))
	tells(t, "the first counts, the other way", zip(partFile("a", "").extra(two+between+one)), 0, 1, withTime(file("a", ""), 6*sec))
	tells(t, "the first counts, though it says nothing", zip(partFile("a", "").extra(field(0x5455, "")+one)), 0, 1, file("a", ""))
	nt := func(v int) string { return field(10, le(0, 4)+"\x01\x00\x18\x00"+le(v, 8)) }
	tells(t, "of another id", zip(partFile("a", "").extra(nt(116444736000000007)+between+nt(116444736000000008))), 0, 1, withTime(file("a", ""), 700))
	tells(t, "of another id, that says nothing", zip(partFile("a", "").extra(field(10, "x")+nt(116444736000000008)+one)), 0, 1, withTime(file("a", ""), 5*sec))
	name := func(s string) string { return field(0x7075, "\x01"+le(sumOf("a"), 4)+s) }
	old := partFile("a", "").both(func(h *head) { h.flags = 0 })
	tells(t, "of a name", zip(old.extra(name("b")+name("c"))), 0, 1, file("b", ""))
	tells(t, "of a name, that says nothing", zip(old.extra(field(0x7075, "\x02")+name("c"))), 0, 1, file("a", ""))
	w := partFile("a", "d").with(func(p *part) { p.record.size = full })
	tells(t, "of wide numbers", zip(w.extra(field(1, le(1, 8))+field(1, le(2, 8)))), 1, 1, file("a", "d"))
	refuses(t, "of wide numbers, the other way", zip(w.extra(field(1, le(2, 8))+field(1, le(1, 8)))), 9, 1, api.ErrZipForm)
	refuses(t, "of wide numbers, the first too short", zip(w.extra(field(1, le(1, 7))+field(1, le(1, 8)))), 9, 1, api.ErrZipForm)
	s := partFile("a", "d").sealed(2, 1)
	tells(t, "of the seal", zip(s.extra(sealField(2, 3, 0))), 1, 1, file("a", "d"))
	refuses(t, "of the seal, the other way", zip(s.with(func(p *part) { p.record.extra = field(0x9901, "") + p.record.extra })), 1, 1, api.ErrZipKind)
}

// wideOf has those numbers of the record in the field 0001, in the order in which they stand there.
func wideOf(p part, size, inside, place bool, at int) part {
	s := ""
	if size {
		s += le(p.record.size, 8)
		p.record.size = full
	}
	if inside {
		s += le(p.record.inside, 8)
		p.record.inside = full
	}
	p = p.at(at)
	if place {
		s += le(at, 8)
		p = p.at(full)
	}
	return p.extra(field(1, s))
}

func TestReadOfWideNumbers(t *testing.T) { // P18.2
	a, b := partFile("a", "some"), partFile("b", strings.Repeat("x", 50)).small()
	want := []api.Entry{file("a", "some"), file("b", strings.Repeat("x", 50))}
	at := len(a.front())
	for n := range 8 {
		size, inside, place := n&1 != 0, n&2 != 0, n&4 != 0
		what := fmt.Sprint("size ", size, ", inside ", inside, ", place ", place)
		w := wideOf(b, size, inside, place, at)
		tells(t, what, zip(a, w), 54, 2, want...)
		tells(t, what+", of the first", zip(wideOf(a, size, inside, place, 0), b), 54, 2, want...)
		tells(t, what+", and more there", zip(a, w.with(func(p *part) {
			s := p.record.extra[4:] + "more"
			p.record.extra = field(77, "x") + field(1, s) + field(10, "x")
		})), 54, 2, want...)
		refuses(t, what+", bytes too many", zip(a, w), 53, 2, api.ErrTreeOver)
		if n == 0 {
			continue
		}
		refuses(t, what+", no field", zip(a, w.with(func(p *part) { p.record.extra = "" })), 54, 2, api.ErrZipForm)
		refuses(t, what+", another field", zip(a, w.with(func(p *part) { p.record.extra = field(256, p.record.extra[4:]) })), 54, 2, api.ErrZipForm)
		for short := 1; short <= len(w.record.extra)-4; short++ {
			refuses(t, fmt.Sprint(what, ", short by ", short), zip(a, w.with(func(p *part) { p.record.extra = field(1, p.record.extra[4:len(p.record.extra)-short]) })), 54, 2, api.ErrZipForm)
		}
		tells(t, what+", and the local header is full", zip(a, w.with(func(p *part) { p.local.size, p.local.inside = full, full })), 54, 2, want...)
	}
	tells(t, "a field that nothing wants", zip(a.extra(field(1, le(7, 8)))), 4, 1, want[0])
	tells(t, "a field that nothing wants, and that is short", zip(a.extra(field(1, "x"))), 4, 1, want[0])
	tells(t, "a field that nothing wants, of numbers too great", zip(a.extra(field(1, strings.Repeat("\xff", 24)))), 4, 1, want[0])
	refuses(t, "the numbers the other way round", zip(a, wideOf(b, true, true, false, at).with(func(p *part) {
		s := p.record.extra[4:]
		p.record.extra = field(1, s[8:]+s[:8])
	})), 99, 2, api.ErrZipForm)
}

func TestReadOfWideNumbersTooGreat(t *testing.T) { // P18.2
	a := partFile("a", "some")
	for _, v := range []int{1<<40 + 1, 1 << 41, 1 << 62, -1, math.MinInt, math.MinInt + 4, 1<<40 + 4} {
		what := fmt.Sprint(v)
		refuses(t, "size "+what, zip(a.with(func(p *part) { p.record.size = full }).extra(field(1, le(v, 8)))), plenty, 1, api.ErrZipForm)
		refuses(t, "inside "+what, zip(a.with(func(p *part) { p.record.inside = full }).extra(field(1, le(v, 8)))), plenty, 1, api.ErrZipForm)
		refuses(t, "place "+what, zip(a.at(full).extra(field(1, le(v, 8)))), plenty, 1, api.ErrZipForm)
		refuses(t, "size "+what+", and another kind", zip(a.flagged(16).with(func(p *part) { p.record.size = full }).extra(field(1, le(v, 8)))), plenty, 1, api.ErrZipForm)
	}
	for _, v := range []int{1 << 40, 1<<40 - 1, 1 << 32} { // not too great, but not there
		refuses(t, fmt.Sprint("size ", v), zip(a.with(func(p *part) { p.record.size = full }).extra(field(1, le(v, 8)))), plenty, 1, api.ErrTreeOver)
		refuses(t, fmt.Sprint("size ", v, ", as may be"), zip(a.with(func(p *part) { p.record.size = full }).extra(field(1, le(v, 8)))), math.MaxInt, 1, api.ErrZipForm)
		refuses(t, fmt.Sprint("size ", v, ", as may just be"), zip(a.with(func(p *part) { p.record.size = full }).extra(field(1, le(v, 8)))), v, 1, api.ErrZipForm)
		refuses(t, fmt.Sprint("size ", v, ", deflated"), zip(a.small().with(func(p *part) { p.record.size, p.local.size = full, full }).extra(field(1, le(v, 8)))), v, 1, api.ErrZipForm)
		refuses(t, fmt.Sprint("inside ", v), zip(a.with(func(p *part) { p.record.inside, p.local.inside = full, full }).extra(field(1, le(v, 8)))), plenty, 1, api.ErrZipForm)
		refuses(t, fmt.Sprint("place ", v), zip(a.at(full).extra(field(1, le(v, 8)))), plenty, 1, api.ErrZipForm)
	}
	refuses(t, "one less than full is no wide number", zip(a.both(func(h *head) { h.size = full - 1 }).extra(field(1, le(4, 8)))), math.MaxInt, 1, api.ErrZipForm)
	refuses(t, "a place of one less than full", zip(a.at(full-1).extra(field(1, le(0, 8)))), plenty, 1, api.ErrZipForm)
}

func TestReadOfFlags(t *testing.T) { // P18.2
	for bit := range 16 {
		what := fmt.Sprint("bit ", bit)
		p := partFile("a", "some")
		q := p.both(func(h *head) { h.flags = 1 << bit }) // the letters of old
		switch bit {
		case 0: // asked of what is sealed
			refuses(t, what, zip(p.flagged(1)), 4, 1, api.ErrZipKind)
		case 1, 2, 11:
			tells(t, what, zip(p.flagged(1<<bit)), 4, 1, file("a", "some"))
			tells(t, what+" alone", zip(q), 4, 1, file("a", "some"))
			tells(t, what+", deflated", zip(p.small().flagged(1<<bit)), 4, 1, file("a", "some"))
		case 3:
			refuses(t, what, zip(p.flagged(8)), 4, 1, api.ErrZipForm)
			tells(t, what+", behind", zip(p.late("")), 4, 1, file("a", "some"))
		default:
			refuses(t, what, zip(p.flagged(1<<bit)), 4, 1, api.ErrZipKind)
			refuses(t, what+" alone", zip(q), 4, 1, api.ErrZipKind)
			refuses(t, what+", of the record", zip(p.with(func(p *part) { p.record.flags |= 1 << bit })), 4, 1, api.ErrZipKind)
			refuses(t, what+", sealed", zip(p.sealed(2, 1).flagged(1<<bit)), 4, 1, api.ErrZipKind)
		}
	}
	tells(t, "no flag", zip(partFile("a", "some").both(func(h *head) { h.flags = 0 })), 4, 1, file("a", "some"))
	tells(t, "all that may be", zip(partFile("a", "some").sealed(2, 1).flagged(6).late("PK\x07\x08")), 4, 1, file("a", "some"))
}

func TestReadOfMethods(t *testing.T) { // P18.2
	p := partFile("a", "some")
	for method := range 300 {
		what := fmt.Sprint("method ", method)
		q := p.both(func(h *head) { h.method = method })
		switch method {
		case 0:
			tells(t, what, zip(q), 4, 1, file("a", "some"))
		case 8:
			refuses(t, what, zip(q), 4, 1, api.ErrZipForm)
			tells(t, what+" of a stream", zip(p.small()), 4, 1, file("a", "some"))
		default:
			refuses(t, what, zip(q), 4, 1, api.ErrZipKind)
		}
	}
	for _, method := range []int{256, 264, 355, 0x800, 65535} {
		refuses(t, fmt.Sprint("method ", method), zip(p.both(func(h *head) { h.method = method })), 4, 1, api.ErrZipKind)
	}
	refuses(t, "method 99, not encrypted, with the field", zip(p.both(func(h *head) { h.method = 99 }).extra(sealField(2, 3, 0))), 4, 1, api.ErrZipKind)
	tells(t, "the field, not encrypted", zip(p.extra(sealField(2, 3, 0))), 4, 1, file("a", "some"))
	refuses(t, "the field, not encrypted, and a sum 0", zip(p.extra(sealField(2, 3, 0)).both(func(h *head) { h.sum = 0 })), 4, 1, api.ErrZipSum)
}

func TestReadOfSealsThatAreNone(t *testing.T) { // P18.2
	s := partFile("a", "some").sealed(2, 1)
	tells(t, "sealed", zip(s), 4, 1, file("a", "some"))
	for what, extra := range map[string]string{
		"no field":             "",
		"another field":        field(0x9902, "\x02\x00AE\x01\x00\x00"),
		"a field turned round": field(0x0199, "\x02\x00AE\x01\x00\x00"),
		"an empty field":       field(0x9901, ""),
		"a field too short":    field(0x9901, "\x02\x00AE\x01\x00"),
		"a field too long":     field(0x9901, "\x02\x00AE\x01\x00\x00\x00"),
		"version 0":            sealField(0, 1, 0),
		"version 3":            sealField(3, 1, 0),
		"version 257":          sealField(257, 1, 0),
		"version 512":          sealField(512, 1, 0),
		"another letter":       field(0x9901, "\x02\x00AF\x01\x00\x00"),
		"letters turned round": field(0x9901, "\x02\x00EA\x01\x00\x00"),
		"small letters":        field(0x9901, "\x02\x00ae\x01\x00\x00"),
		"strength 0":           sealField(2, 0, 0),
		"strength 4":           sealField(2, 4, 0),
		"strength 255":         sealField(2, 255, 0),
		"method 1":             sealField(2, 1, 1),
		"method 9":             sealField(2, 1, 9),
		"method 12":            sealField(2, 1, 12),
		"method 99":            sealField(2, 1, 99),
		"method 256":           sealField(2, 1, 256),
		"method 264":           sealField(2, 1, 264),
	} {
		refuses(t, what, zip(s.with(func(p *part) { p.record.extra = extra })), 4, 1, api.ErrZipKind)
		refuses(t, what+", and bytes too many", zip(s.with(func(p *part) { p.record.extra = extra })), 3, 1, api.ErrZipKind)
	}
	for method := range 300 {
		if method != 99 {
			refuses(t, fmt.Sprint("method ", method), zip(s.both(func(h *head) { h.method = method })), 4, 1, api.ErrZipKind)
		}
	}
	// The local header's own extra does not count.
	tells(t, "another field ahead", zip(s.with(func(p *part) { p.local.extra = sealField(1, 3, 12) })), 4, 1, file("a", "some"))
	refuses(t, "the field only ahead", zip(s.with(func(p *part) { p.local.extra, p.record.extra = p.record.extra, "" })), 4, 1, api.ErrZipKind)
	tells(t, "the field behind others", zip(s.with(func(p *part) { p.record.extra = field(1, "") + field(77, "x") + p.record.extra + field(78, "x") })), 4, 1, file("a", "some"))
}

func TestReadOfDataAndItsLimit(t *testing.T) { // P18.2
	l := []part{partFile("a", "abc"), partFolder("b"), partLink("c", "de"), partFile("d", strings.Repeat("f", 100)).small(), partFile("e", "sealed").sealed(1, 1), partFile("f", "")}
	want := []api.Entry{file("a", "abc"), folder("b"), link("c", "de"), file("d", strings.Repeat("f", 100)), file("e", "sealed"), file("f", "")}
	much := 0
	for n := range len(l) + 1 {
		s := zip(l[:n]...)
		if n > 0 {
			much += len(want[n-1].Data + want[n-1].Target)
		}
		tells(t, fmt.Sprint(n, " entries"), s, much, n, want[:n]...)
		tells(t, fmt.Sprint(n, " entries, a byte more"), s, much+1, n, want[:n]...)
		tells(t, fmt.Sprint(n, " entries, much more"), s, math.MaxInt, n, want[:n]...)
		for less := 1; less <= 5 && n > 0; less++ {
			refuses(t, fmt.Sprint(n, " entries, bytes less ", less), s, much-less, n, api.ErrTreeOver)
		}
		if n > 0 {
			refuses(t, fmt.Sprint(n, " entries, below 0"), s, -1, n, api.ErrTreeOver)
			refuses(t, fmt.Sprint(n, " entries, far below 0"), s, math.MinInt, n, api.ErrTreeOver)
		}
	}
	// What is said counts, though it is not so.
	refuses(t, "said to have more", zip(partFile("a", "abc").both(func(h *head) { h.size = 5 })), 4, 1, api.ErrTreeOver)
	refuses(t, "said to have more, as may be", zip(partFile("a", "abc").both(func(h *head) { h.size = 5 })), 5, 1, api.ErrZipForm)
	refuses(t, "a bomb", zip(partFile("a", strings.Repeat("x", 5000)).small().both(func(h *head) { h.size = 5 })), 5, 1, api.ErrZipForm)
}
