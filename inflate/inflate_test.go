package inflate_test

import (
	"bytes"
	"cmp"
	"compress/flate"
	"fmt"
	"io"
	"math"
	"math/rand"
	"slices"
	"strings"
	"testing"

	"wainload/api"
	"wainload/inflate"
)

// plenty is a most that no stream of these tests comes to.
const plenty = 1 << 24

// Streams are written here as rows: texts of 0 and 1, in the order in which bits are read.

// num is a number of n bits, its lowest first.
func num(v, n int) string {
	var row strings.Builder
	for i := range n {
		row.WriteByte('0' + byte(v>>i&1))
	}
	return row.String()
}

// pack makes bytes of a row, the rest of the last one filled with zeros.
func pack(row string) []byte {
	b := make([]byte, (len(row)+7)/8)
	for i := range len(row) {
		b[i/8] |= (row[i] - '0') << (i % 8)
	}
	return b
}

// unpack makes a row of bytes.
func unpack(b []byte) string {
	var row strings.Builder
	for _, x := range b {
		row.WriteString(num(int(x), 8))
	}
	return row.String()
}

// codesOf tells the codes of lengths as rows, "" of a symbol that has none, and whether the
// lengths may be (lone or not): chapter 4 word by word.
func codesOf(lens []int, lone bool) ([]string, bool) {
	var having []int
	weight := 0
	for symbol, long := range lens {
		if long > 0 {
			having = append(having, symbol)
			weight += 1 << (15 - long)
		}
	}
	few := len(having) == 0 || len(having) == 1 && lens[having[0]] == 1
	if weight != 1<<15 && !(lone && few) {
		return nil, false
	}
	slices.SortStableFunc(having, func(a, b int) int { return cmp.Compare(lens[a], lens[b]) })
	codes := make([]string, len(lens))
	code := 0
	for i, symbol := range having {
		if i > 0 {
			code = (code + 1) << (lens[symbol] - lens[having[i-1]])
		}
		codes[symbol] = fmt.Sprintf("%0*b", lens[symbol], code)
	}
	return codes, true
}

// fixedLens are those that the chapter's word 'Fixed' says.
func fixedLens() (symbols, backs []int) {
	symbols = slices.Concat(slices.Repeat([]int{8}, 144), slices.Repeat([]int{9}, 112), slices.Repeat([]int{7}, 24), slices.Repeat([]int{8}, 8))
	return symbols, slices.Repeat([]int{5}, 32)
}

// split says of each symbol how many further bits it has, and the first number it stands for:
// the one behind the last number of the symbol ahead.
func split(many, first int, further func(int) int) (bits, from []int) {
	for i := range many {
		bits = append(bits, further(i))
		from = append(from, first)
		first += int(math.Pow(2, float64(further(i))))
	}
	return bits, from
}

// longs are those of the symbols 257 to 284 (at 0 to 27).
func longs() (bits, from []int) {
	return split(28, 3, func(i int) int {
		if i+257 < 265 {
			return 0
		}
		return (i + 257 - 261) / 4
	})
}

// distances are those of the distances' symbols 0 to 29.
func distances() (bits, from []int) {
	return split(30, 1, func(i int) int {
		if i < 4 {
			return 0
		}
		return i/2 - 1
	})
}

// order is that of the numbers in a dynamic block.
var order = []int{16, 17, 18, 0, 8, 7, 9, 6, 10, 5, 11, 4, 12, 3, 13, 2, 14, 1, 15}

// slow is P6.1 word by word; it panics with an Errno where something is amiss.
type slow struct {
	row  string
	at   int
	out  []byte
	most int
}

func slowInflate(b []byte, most int) (out []byte, n int, e api.Errno) {
	defer func() {
		if r := recover(); r != nil {
			out, n, e = nil, 0, r.(api.Errno)
		}
	}()
	s := &slow{row: unpack(b), most: max(most, 0)}
	for {
		last := s.bits(1)
		switch s.bits(2) {
		case 0:
			s.stored()
		case 1:
			symbols, backs := fixedLens()
			s.data(symbols, backs)
		case 2:
			s.data(s.dynamic())
		case 3:
			panic(api.ErrInflateBlock)
		}
		if last == 1 {
			return s.out, (s.at + 7) / 8, api.OK
		}
	}
}

func (s *slow) bits(n int) int {
	if s.at+n > len(s.row) {
		panic(api.ErrInflateEnd)
	}
	v := 0
	for i := range n {
		v += int(s.row[s.at+i]-'0') << i
	}
	s.at += n
	return v
}

func (s *slow) stored() {
	for s.at%8 != 0 {
		s.at++
	}
	long := s.bits(16)
	if s.bits(16) != 65535-long {
		panic(api.ErrInflateSize)
	}
	if len(s.out)+long > s.most {
		panic(api.ErrInflateOver)
	}
	for range long {
		s.out = append(s.out, byte(s.bits(8)))
	}
}

// next finds the code that the next bits are by trying longer and longer beginnings.
func (s *slow) next(codes []string) int {
	some := slices.ContainsFunc(codes, func(c string) bool { return c != "" })
	for n := 1; some; n++ {
		if s.at+n > len(s.row) {
			panic(api.ErrInflateEnd)
		}
		begun := s.row[s.at : s.at+n]
		if symbol := slices.Index(codes, begun); symbol >= 0 {
			s.at += n
			return symbol
		}
		if !slices.ContainsFunc(codes, func(c string) bool { return strings.HasPrefix(c, begun) }) {
			break
		}
	}
	panic(api.ErrInflateCode)
}

func (s *slow) dynamic() (symbols, backs []int) {
	many, far, numbers := s.bits(5)+257, s.bits(5)+1, s.bits(4)+4
	if many > 286 || far > 30 {
		panic(api.ErrInflateCode)
	}
	inner := make([]int, 19)
	for _, number := range order[:numbers] {
		inner[number] = s.bits(3)
	}
	codes, ok := codesOf(inner, false)
	if !ok {
		panic(api.ErrInflateCode)
	}
	var lens []int
	for len(lens) < many+far {
		number := s.next(codes)
		long, times := number, 1
		if number == 16 && len(lens) == 0 {
			panic(api.ErrInflateCode)
		}
		switch number {
		case 16:
			long, times = lens[len(lens)-1], s.bits(2)+3
		case 17:
			long, times = 0, s.bits(3)+3
		case 18:
			long, times = 0, s.bits(7)+11
		}
		lens = append(lens, slices.Repeat([]int{long}, times)...)
	}
	if len(lens) > many+far || lens[256] == 0 {
		panic(api.ErrInflateCode)
	}
	return lens[:many], lens[many:]
}

func (s *slow) data(symbols, backs []int) {
	codes, ok := codesOf(symbols, true)
	farCodes, ok2 := codesOf(backs, true)
	if !ok || !ok2 {
		panic(api.ErrInflateCode)
	}
	for {
		symbol := s.next(codes)
		switch {
		case symbol == 256:
			return
		case symbol > 256:
			s.run(symbol, farCodes)
		case len(s.out) >= s.most:
			panic(api.ErrInflateOver)
		default:
			s.out = append(s.out, byte(symbol))
		}
	}
}

func (s *slow) run(symbol int, farCodes []string) {
	long := 258
	if symbol > 285 {
		panic(api.ErrInflateCode)
	}
	if symbol < 285 {
		bits, from := longs()
		long = from[symbol-257] + s.bits(bits[symbol-257])
	}
	far := s.next(farCodes)
	if far > 29 {
		panic(api.ErrInflateCode)
	}
	bits, from := distances()
	back := from[far] + s.bits(bits[far])
	if back > len(s.out) {
		panic(api.ErrInflateBack)
	}
	if len(s.out)+long > s.most {
		panic(api.ErrInflateOver)
	}
	for range long {
		s.out = append(s.out, s.out[len(s.out)-back])
	}
}

// like holds Inflate against the slow one.
func like(t *testing.T, b []byte, most int) {
	t.Helper()
	out, n, e := inflate.Inflate(b, most)
	wantOut, wantN, wantE := slowInflate(b, most)
	if !bytes.Equal(out, wantOut) || n != wantN || e != wantE {
		t.Fatalf("%x, most %d: %d bytes, %d, %d, not %d bytes, %d, %d", b[:min(len(b), 200)], most, len(out), n, e, len(wantOut), wantN, wantE)
	}
}

// tells asks for that text, and for all bytes of b to be read.
func tells(t *testing.T, what string, b []byte, text []byte) {
	t.Helper()
	out, n, e := inflate.Inflate(b, plenty)
	if e != api.OK || n != len(b) || !bytes.Equal(out, text) {
		t.Errorf("%s: %d bytes, %d, %d; %d bytes, %d", what, len(out), n, e, len(text), len(b))
	}
}

// refuses asks for that error, with nothing beside it.
func refuses(t *testing.T, what string, b []byte, most int, want api.Errno) {
	t.Helper()
	out, n, e := inflate.Inflate(b, most)
	if e != want || n != 0 || len(out) != 0 {
		t.Errorf("%s: %d bytes, %d, error %d, not %d", what, len(out), n, e, want)
	}
}

// The heads of blocks.
const (
	more        = "0"
	last        = "1"
	storedKind  = "00"
	fixedKind   = "10"
	dynamicKind = "01"
	wrongKind   = "11"
)

// stored is a stored block behind a row.
func stored(row, which string, text []byte) string {
	row += which + storedKind
	row += strings.Repeat("1", (8-len(row)%8)%8) // what Align skips is no matter
	return row + num(len(text), 16) + num(65535-len(text), 16) + unpack(text)
}

// pen lays the symbols of a block's data.
type pen struct {
	symbols, backs []string
}

func newPen(symbols, backs []int) pen {
	codes, ok := codesOf(symbols, true)
	farCodes, ok2 := codesOf(backs, true)
	if !ok || !ok2 {
		panic("no codes")
	}
	return pen{codes, farCodes}
}

func fixedPen() pen {
	return newPen(fixedLens())
}

func (p pen) text(text string) string {
	var row strings.Builder
	for i := range len(text) {
		row.WriteString(p.symbols[text[i]])
	}
	return row.String()
}

func (p pen) end() string {
	return p.symbols[256]
}

// long is a run's length by the least symbol that has it, but 285 of 258.
func (p pen) long(long int) string {
	if long == 258 {
		return p.symbols[285]
	}
	bits, from := longs()
	i := len(from) - 1
	for from[i] > long {
		i--
	}
	return p.symbols[257+i] + num(long-from[i], bits[i])
}

func (p pen) back(back int) string {
	bits, from := distances()
	i := len(from) - 1
	for from[i] > back {
		i--
	}
	return p.backs[i] + num(back-from[i], bits[i])
}

func (p pen) run(long, back int) string {
	return p.long(long) + p.back(back)
}

// bare is the head of a dynamic block: what its three numbers say, the lengths for the numbers
// 0 to 18 (all 19 of them are laid), and whatever follows.
func bare(symbols, backs int, inner []int) string {
	row := dynamicKind + num(symbols-257, 5) + num(backs-1, 5) + num(15, 4)
	for _, number := range order {
		row += num(inner[number], 3)
	}
	return row
}

// flat are lengths for the numbers 0 to 18 that are full, and have all of them.
func flat() []int {
	return append(slices.Repeat([]int{4}, 13), 5, 5, 5, 5, 5, 5)
}

// innerRow lays numbers, each with its further bits as a row behind it.
func innerRow(inner []int, numbers ...any) string {
	codes, ok := codesOf(inner, false)
	if !ok {
		panic("no codes")
	}
	row := ""
	for _, x := range numbers {
		switch x := x.(type) {
		case int:
			row += codes[x]
		case string:
			row += x
		}
	}
	return row
}

// dynamic is the head of a dynamic block, each length laid as it is.
func dynamic(symbols, backs []int) string {
	return dynamicBy(flat(), symbols, backs)
}

// dynamicBy is that with other lengths for the numbers.
func dynamicBy(inner, symbols, backs []int) string {
	row := bare(len(symbols), len(backs), inner)
	codes, _ := codesOf(inner, false)
	for _, long := range slices.Concat(symbols, backs) {
		row += codes[long]
	}
	return row
}

// anyInner are full lengths by chance for the numbers 0 to 18, and have all of them.
func anyInner(r *rand.Rand) []int {
	lens := []int{0}
	for len(lens) < 19 {
		i := r.Intn(len(lens))
		if lens[i] < 7 { // a code makes way for two that are longer by one
			lens[i]++
			lens = append(lens, lens[i])
		}
	}
	r.Shuffle(len(lens), func(i, j int) { lens[i], lens[j] = lens[j], lens[i] })
	return lens
}

// evenLens are full lengths of many symbols, as like as may be.
func evenLens(many int) []int {
	long := 0
	for 1<<long < many {
		long++
	}
	short := 1<<long - many
	return append(slices.Repeat([]int{long - 1}, short), slices.Repeat([]int{long}, many-short)...)
}

// slanted are full lengths up to 15 of 16 symbols from a first one on, out of many.
func slanted(many, first int) []int {
	lens := make([]int, many)
	for i := range 16 {
		lens[first+i] = min(i+1, 15)
	}
	return lens
}

// noise are bytes that don't repeat soon.
func noise(seed int64, n int) []byte {
	b := make([]byte, n)
	rand.New(rand.NewSource(seed)).Read(b)
	return b
}

func TestExamplesOfTheChapter(t *testing.T) { // P6.1
	tells(t, "stored a", []byte{1, 1, 0, 0xfe, 0xff, 'a'}, []byte("a"))
	tells(t, "fixed a", []byte{0x4b, 4, 0}, []byte("a"))
	tells(t, "fixed nothing", []byte{3, 0}, nil)
	refuses(t, "kind 3", []byte{7}, plenty, api.ErrInflateBlock)
}

func TestNoBytesAtAllAreTheEnd(t *testing.T) { // P6.1
	refuses(t, "nil", nil, plenty, api.ErrInflateEnd)
	refuses(t, "empty", []byte{}, plenty, api.ErrInflateEnd)
	refuses(t, "nil, most 0", nil, 0, api.ErrInflateEnd)
}

func TestKindThreeIsNoBlock(t *testing.T) { // P6.1
	p := fixedPen()
	for _, which := range []string{more, last} {
		refuses(t, "alone", pack(which+wrongKind), plenty, api.ErrInflateBlock)
		refuses(t, "with bits behind it", pack(which+wrongKind+strings.Repeat("1", 77)), plenty, api.ErrInflateBlock)
		refuses(t, "behind a fixed block", pack(more+fixedKind+p.text("abc")+p.end()+which+wrongKind), plenty, api.ErrInflateBlock)
		refuses(t, "behind a stored block", pack(stored("", more, []byte("abc"))+which+wrongKind), plenty, api.ErrInflateBlock)
	}
}

func TestABlockBehindTheLastOneIsNotRead(t *testing.T) { // P6.1
	p := fixedPen()
	row := last + fixedKind + p.text("x") + p.end()
	for _, behind := range []string{last + wrongKind, more + wrongKind, last + fixedKind + p.text("y") + p.end()} {
		out, n, e := inflate.Inflate(pack(row+behind), plenty)
		if string(out) != "x" || n != (len(row)+7)/8 || e != api.OK {
			t.Errorf("%q, %d, %d", out, n, e)
		}
	}
}

func TestBlocksFollowOneAnother(t *testing.T) { // P6.1
	p := fixedPen()
	symbols, backs := evenLens(286), evenLens(30)
	d := newPen(symbols, backs)
	row := more + fixedKind + p.text("one ") + p.end()
	row += more + dynamicKind + dynamic(symbols, backs)[2:] + d.text("two ") + d.run(8, 8) + d.end()
	row = stored(row, more, []byte("three "))
	row = stored(row, more, nil)
	row += more + fixedKind + p.end()
	row += more + fixedKind + p.run(3, 22) + p.end() // back into the first block
	row += last + dynamicKind + dynamic(symbols, backs)[2:] + d.run(6, 9) + d.end()
	tells(t, "all kinds", pack(row), []byte("one two one two three onethree "))
}

func TestStoredBlocks(t *testing.T) { // P6.1
	for _, long := range []int{0, 1, 2, 255, 256, 32767, 32768, 65534, 65535} {
		text := noise(int64(long), long)
		tells(t, fmt.Sprint(long), pack(stored("", last, text)), text)
	}
	long := noise(1, 65535)
	row := stored(stored(stored("", more, long), more, nil), last, long)
	tells(t, "65535, 0, 65535", pack(row), slices.Concat(long, long))
}

func TestStoredBlocksBeginWhereAByteDoes(t *testing.T) { // P6.1
	p := fixedPen()
	for ahead := range 9 { // a byte above 143 has 9 bits, so that all places of a byte come up
		text := strings.Repeat("\xff", ahead)
		row := stored(more+fixedKind+p.text(text)+p.end(), last, []byte("stored"))
		tells(t, fmt.Sprint(ahead), pack(row), []byte(text+"stored"))
		row = stored(more+fixedKind+p.text(text)+p.end(), more, []byte("stored"))
		tells(t, fmt.Sprint(ahead), pack(row+last+fixedKind+p.text("!")+p.end()), []byte(text+"stored!"))
	}
}

func TestTheSecondNumberIsTheFirstOneTurned(t *testing.T) { // P6.1
	for _, long := range []int{0, 1, 3, 0x00ff, 0xff00, 65535} {
		for bit := range 16 {
			b := pack(stored("", last, noise(2, long)))
			b[3+bit/8] ^= 1 << (bit % 8)
			refuses(t, fmt.Sprint(long, bit), b, plenty, api.ErrInflateSize)
			refuses(t, "and most 0", b, 0, api.ErrInflateSize)
			refuses(t, "and no bytes", b[:5], plenty, api.ErrInflateSize)
			refuses(t, "and half of it", b[:4], plenty, api.ErrInflateEnd)
		}
	}
	same := []byte{1, 5, 0, 5, 0, 'a', 'b', 'c', 'd', 'e'}
	refuses(t, "the same number twice", same, plenty, api.ErrInflateSize)
}

func TestAllBytesInAFixedBlock(t *testing.T) { // P6.1
	p := fixedPen()
	var all []byte
	for i := range 256 {
		all = append(all, byte(i))
		tells(t, fmt.Sprint(i), pack(last+fixedKind+p.text(string([]byte{byte(i)}))+p.end()), []byte{byte(i)})
	}
	tells(t, "all", pack(last+fixedKind+p.text(string(all))+p.end()), all)
}

// eachPen calls with a fixed block's pen and head, and with those of several dynamic blocks.
func eachPen(call func(what string, p pen, head string)) {
	call("fixed", fixedPen(), fixedKind)
	symbols, backs := evenLens(286), evenLens(30)
	call("dynamic", newPen(symbols, backs), dynamic(symbols, backs))
	symbols, backs = evenLens(286), evenLens(30)
	slices.Reverse(symbols) // the short codes last
	slices.Reverse(backs)
	call("dynamic, reversed", newPen(symbols, backs), dynamic(symbols, backs))
}

func TestABlockWithoutDataAndWithSingleBytes(t *testing.T) { // P6.1
	eachPen(func(what string, p pen, head string) {
		tells(t, what+" nothing", pack(last+head+p.end()), nil)
		tells(t, what+" a", pack(last+head+p.text("a")+p.end()), []byte("a"))
		tells(t, what+" two blocks", pack(more+head+p.text("a")+p.end()+last+head+p.text("b\x00\xff")+p.end()), []byte("ab\x00\xff"))
	})
}

func TestRunsOfAllLengths(t *testing.T) { // P6.1
	eachPen(func(what string, p pen, head string) {
		for long := 3; long <= 258; long++ {
			row := last + head + p.text("ab") + p.run(long, 1) + p.text("c") + p.end()
			tells(t, fmt.Sprint(what, " ", long), pack(row), []byte("a"+strings.Repeat("b", long+1)+"c"))
		}
		// 258 is also the last length of the symbol 284.
		row := last + head + p.text("x") + p.symbols[284] + "11111" + p.back(1) + p.end()
		tells(t, what+" 284", pack(row), []byte(strings.Repeat("x", 259)))
	})
}

func TestRunsAtAllDistancesSymbols(t *testing.T) { // P6.1
	ahead := noise(3, 32768)
	bits, from := distances()
	eachPen(func(what string, p pen, head string) {
		for symbol := range 30 {
			for _, back := range []int{from[symbol], from[symbol] + 1<<bits[symbol] - 1} {
				row := stored("", more, ahead) + last + head + p.run(3, back) + p.end()
				at := len(ahead) - back
				text := append(slices.Clone(ahead), ahead[at])
				text = append(text, text[at+1])
				text = append(text, text[at+2])
				tells(t, fmt.Sprint(what, " ", back), pack(row), text)
			}
		}
	})
}

func TestTheGreatestDistance(t *testing.T) { // P6.1
	eachPen(func(what string, p pen, head string) {
		for _, told := range []int{32768, 32769, 40000} {
			ahead := noise(4, told)
			row := stored("", more, ahead) + last + head + p.run(258, 32768) + p.end()
			tells(t, fmt.Sprint(what, " ", told), pack(row), append(slices.Clone(ahead), ahead[told-32768:told-32768+258]...))
		}
		row := stored("", more, noise(4, 32767)) + last + head + p.run(258, 32768) + p.end()
		refuses(t, what, pack(row), plenty, api.ErrInflateBack)
	})
}

func TestRunsTellBytesOfThemselves(t *testing.T) { // P6.1
	eachPen(func(what string, p pen, head string) {
		for back := 1; back <= 12; back++ {
			ahead := "abcdefghijkl"[:back]
			for _, long := range []int{3, 4, 10, 11, 258} {
				row := last + head + p.text(ahead) + p.run(long, back) + p.end()
				tells(t, fmt.Sprint(what, back, long), pack(row), []byte(strings.Repeat(ahead, 300)[:back+long]))
			}
		}
	})
}

func TestADistanceGreaterThanWhatWasTold(t *testing.T) { // P6.1
	eachPen(func(what string, p pen, head string) {
		refuses(t, what+" nothing told", pack(last+head+p.run(3, 1)+p.end()), plenty, api.ErrInflateBack)
		for _, told := range []int{1, 2, 3, 4, 5, 6, 8, 9, 24, 255, 256, 257, 5000, 24576, 32767} {
			ahead := noise(int64(told), told)
			row := stored("", more, ahead) + last + head
			tells(t, fmt.Sprint(what, " ", told), pack(row+p.run(3, told)+p.end()), append(slices.Clone(ahead), bytes.Repeat(ahead, 3)[:3]...))
			refuses(t, fmt.Sprint(what, " ", told+1), pack(row+p.run(3, told+1)+p.end()), plenty, api.ErrInflateBack)
			refuses(t, "no end behind it", pack(row+p.run(3, told+1)), plenty, api.ErrInflateBack)
			refuses(t, "over as well", pack(row+p.run(3, told+1)+p.end()), told, api.ErrInflateBack)
		}
	})
}

func TestSymbolsAboveTheLastOnes(t *testing.T) { // P6.1
	p := fixedPen()
	for _, symbol := range []int{286, 287} {
		refuses(t, fmt.Sprint(symbol), pack(last+fixedKind+p.text("abc")+p.symbols[symbol]+p.back(1)+p.end()), plenty, api.ErrInflateCode)
		refuses(t, "at the end", flush(last+fixedKind+p.symbols[symbol]), plenty, api.ErrInflateCode)
		refuses(t, "most 0", pack(last+fixedKind+p.symbols[symbol]+p.back(1)+p.end()), 0, api.ErrInflateCode)
	}
	for _, far := range []int{30, 31} {
		refuses(t, fmt.Sprint(far), pack(last+fixedKind+p.text("abc")+p.long(3)+p.backs[far]+p.end()), plenty, api.ErrInflateCode)
		refuses(t, "most 3", pack(last+fixedKind+p.text("abc")+p.long(3)+p.backs[far]+p.end()), 3, api.ErrInflateCode)
		refuses(t, "at the end", flush(last+fixedKind+p.long(3)+p.backs[far]), plenty, api.ErrInflateCode)
		refuses(t, "nothing told", pack(last+fixedKind+p.long(3)+p.backs[far]+p.end()), plenty, api.ErrInflateCode)
	}
}

func TestHowManyLengthsADynamicBlockTells(t *testing.T) { // P6.1
	for _, many := range []int{257, 258, 285, 286} {
		for _, far := range []int{1, 2, 29, 30} {
			symbols, backs := make([]int, many), evenLens(far)
			symbols[many-1], symbols[256] = 1, 1
			if many == 257 {
				symbols[0] = 1
			}
			if far == 1 {
				backs[0] = 1
			}
			row := last + dynamic(symbols, backs) + newPen(symbols, backs).end()
			tells(t, fmt.Sprint(many, far), pack(row), nil)
		}
	}
	for many := 257; many <= 288; many++ {
		for far := 1; far <= 32; far++ {
			if many > 286 || far > 30 {
				row := last + bare(many, far, flat()) + strings.Repeat("0", 4000)
				refuses(t, fmt.Sprint(many, far), pack(row), plenty, api.ErrInflateCode)
				refuses(t, "no more than the three numbers", pack(row[:17]), plenty, api.ErrInflateCode)
				refuses(t, "not all of the three numbers", pack(row[:16]), plenty, api.ErrInflateEnd)
			}
		}
	}
}

func TestTheOrderOfTheNumbers(t *testing.T) { // P6.1
	// Fewer than 19 lengths follow: the other numbers have none.
	symbols, backs := make([]int, 257), []int{0}
	symbols['a'], symbols[256] = 1, 1
	d := newPen(symbols, backs)
	for follow := 18; follow <= 19; follow++ { // 1 stands at the place 17 (from 0)
		inner := make([]int, 19)
		inner[18], inner[17], inner[0], inner[1] = 2, 2, 2, 2
		row := last + dynamicKind + num(0, 5) + num(0, 5) + num(follow-4, 4)
		for _, number := range order[:follow] {
			row += num(inner[number], 3)
		}
		row += innerRow(inner, 18, num(97-11, 7), 1, 18, num(138-11, 7), 18, num(20-11, 7), 1, 0)
		tells(t, fmt.Sprint(follow), pack(row+d.text("aaa")+d.end()), []byte("aaa"))
	}
	r := rand.New(rand.NewSource(12))
	all := slanted(286, 241)
	p := newPen(all, slanted(30, 3))
	for range 100 {
		text := "\xf1\xf2\xf3\xf4\xf5\xf6\xf7\xf8\xf9\xfa\xfb\xfc\xfd\xfe\xff" // all that have a code
		row := last + dynamicBy(anyInner(r), all, slanted(30, 3)) + p.text(text) + p.end()
		tells(t, "any lengths for the numbers", pack(row), []byte(text))
	}
	// Each number by itself, beside 1 and 0.
	for _, number := range []int{2, 3, 4, 5, 6, 7, 8, 9, 10, 11, 12, 13, 14, 15} {
		lens := make([]int, 257)
		lens[256] = 1
		for i := range number - 1 {
			lens[i] = i + 2
		}
		lens[number-1] = number
		row := last + dynamic(lens, backs)
		p := newPen(lens, backs)
		text := "\x00" + string([]byte{byte(number - 1)})
		tells(t, fmt.Sprint(number), pack(row+p.text(text)+p.end()), []byte(text))
	}
}

func TestTooFewLengthsOfNumbersAreCutOff(t *testing.T) { // P6.1
	row := last + bare(257, 1, flat())
	for cut := 17; cut < 17+19*3; cut++ {
		refuses(t, fmt.Sprint(cut), pack(row[:cut])[:cut/8], plenty, api.ErrInflateEnd)
	}
}

func TestCodesOfNumbersThatAreNotFull(t *testing.T) { // P6.1
	behind := strings.Repeat("01", 2000)
	for what, lens := range map[string]map[int]int{
		"none":            {},
		"a lone one":      {0: 1},
		"a lone one, 18":  {18: 1},
		"under":           {0: 2, 1: 2, 18: 2},
		"over":            {0: 1, 1: 1, 18: 1},
		"over by little":  {0: 1, 1: 2, 2: 3, 3: 4, 4: 5, 5: 6, 6: 7, 7: 7, 8: 7},
		"under by little": {0: 1, 1: 2, 2: 3, 3: 4, 4: 5, 5: 6, 6: 7},
	} {
		inner := make([]int, 19)
		for number, long := range lens {
			inner[number] = long
		}
		row := last + bare(257, 1, inner)
		refuses(t, what, pack(row+behind), plenty, api.ErrInflateCode)
		refuses(t, what+" and no more", pack(row), plenty, api.ErrInflateCode)
		refuses(t, what+" cut off", pack(row)[:9], plenty, api.ErrInflateEnd)
	}
}

// repeating are lengths for the numbers 0, 1, 16, 17 and 18 alone.
func repeating() []int {
	inner := make([]int, 19)
	inner[0], inner[1], inner[16], inner[17], inner[18] = 2, 2, 2, 3, 3
	return inner
}

func TestLengthsThatComeAgain(t *testing.T) { // P6.1
	inner := repeating()
	p := newPen(append(make([]int, 255), 1, 1), []int{0})
	head := last + bare(257, 1, inner)
	zeros := []any{18, num(127, 7), 18, num(255-138-11, 7)} // 255 of them
	ok := map[string][]any{
		"all by 18":           append(slices.Clone(zeros), 1, 1, 0),
		"17 with 3":           {18, num(127, 7), 18, num(103, 7), 17, num(0, 3), 1, 1, 0},
		"17 with 10":          {18, num(127, 7), 18, num(96, 7), 17, num(7, 3), 1, 1, 0},
		"18 with 11":          {18, num(127, 7), 18, num(255-138-11-11, 7), 18, num(0, 7), 1, 1, 0},
		"16 of a length 0":    {0, 16, num(3, 2), 18, num(127, 7), 18, num(255-7-138-11, 7), 1, 1, 0},
		"16 behind 17":        {17, num(0, 3), 16, num(0, 2), 18, num(127, 7), 18, num(255-6-138-11, 7), 1, 1, 0},
		"16 behind 16":        {0, 16, num(0, 2), 16, num(1, 2), 18, num(127, 7), 18, num(255-8-138-11, 7), 1, 1, 0},
		"16 behind 18":        {18, num(127, 7), 16, num(2, 2), 18, num(255-5-138-11, 7), 1, 1, 0},
		"a length by itself ": append(append(slices.Repeat([]any{0}, 255), 1), 1, 0),
	}
	for what, numbers := range ok {
		row := head + innerRow(inner, numbers...) + p.text("\xff\xff") + p.end()
		tells(t, what, pack(row), []byte("\xff\xff"))
	}
}

func TestLengthsComeAgainAcrossSymbolsAndDistances(t *testing.T) { // P6.1
	inner := repeating()
	zeros := []any{18, num(127, 7), 18, num(255-138-11, 7)}
	// 255 zeros, then 1, 1 and 1, 1: the last three are the one ahead once more.
	row := last + bare(257, 2, inner) + innerRow(inner, append(zeros, 1, 16, num(0, 2))...)
	p := newPen(append(make([]int, 255), 1, 1), []int{1, 1})
	tells(t, "16", pack(row+p.text("\xff")+p.end()), []byte("\xff"))
	// The lengths of a run of zeros may lie on both sides as well.
	row = last + bare(260, 5, inner) + innerRow(inner, append(zeros, 1, 1, 17, num(8-3, 3))...)
	p = newPen(append(make([]int, 255), 1, 1, 0, 0, 0), make([]int, 5))
	tells(t, "17", pack(row+p.text("\xff")+p.end()), []byte("\xff"))
	row = last + bare(270, 30, inner) + innerRow(inner, append(zeros, 1, 1, 18, num(43-11, 7))...)
	p = newPen(append(make([]int, 255), append([]int{1, 1}, make([]int, 13)...)...), make([]int, 30))
	tells(t, "18", pack(row+p.text("\xff")+p.end()), []byte("\xff"))
}

func TestNoLengthAheadToComeAgain(t *testing.T) { // P6.1
	inner := repeating()
	head := last + bare(257, 1, inner)
	for times := range 4 {
		row := head + innerRow(inner, 16, num(times, 2), 18, num(127, 7), 18, num(80, 7), 1, 1, 0)
		refuses(t, fmt.Sprint(times), pack(row), plenty, api.ErrInflateCode)
	}
	refuses(t, "at the end", flush(head+innerRow(inner, 16)), plenty, api.ErrInflateCode)
	// A block's lengths begin anew: those of the block ahead are no lengths ahead.
	symbols, backs := evenLens(286), evenLens(30)
	d := newPen(symbols, backs)
	row := more + dynamic(symbols, backs) + d.text("abc") + d.end() + head + innerRow(inner, 16, num(0, 2))
	refuses(t, "a second block", pack(row+strings.Repeat("0", 999)), plenty, api.ErrInflateCode)
}

func TestMoreLengthsThanAreToBeRead(t *testing.T) { // P6.1
	inner := repeating()
	zeros := []any{18, num(127, 7), 18, num(255-138-11, 7)} // then 1, 1 and some of 0, or of 1
	for far := 4; far <= 30; far++ {
		head := last + bare(257, far, inner)
		p := newPen(append(make([]int, 255), 1, 1), make([]int, far))
		by := func(number, more, bits int) []byte {
			return pack(head + innerRow(inner, append(slices.Clone(zeros), 1, 1, 0, number, num(more, bits))...) + p.end())
		}
		if far-1 <= 6 {
			tells(t, fmt.Sprint("16, ", far), by(16, far-1-3, 2), nil)
		}
		if far <= 6 {
			refuses(t, fmt.Sprint("16, ", far), by(16, far-3, 2), plenty, api.ErrInflateCode)
		}
		if far-1 <= 10 {
			tells(t, fmt.Sprint("17, ", far), by(17, far-1-3, 3), nil)
		}
		if far <= 10 {
			refuses(t, fmt.Sprint("17, ", far), by(17, far-3, 3), plenty, api.ErrInflateCode)
		}
		if far-1 >= 11 {
			tells(t, fmt.Sprint("18, ", far), by(18, far-1-11, 7), nil)
		}
		if far >= 11 {
			refuses(t, fmt.Sprint("18, ", far), by(18, far-11, 7), plenty, api.ErrInflateCode)
		}
		refuses(t, fmt.Sprint("far too many, ", far), by(18, 127, 7), plenty, api.ErrInflateCode)
	}
}

func TestABlockWithoutAnEnd(t *testing.T) { // P6.1
	symbols := make([]int, 286)
	symbols['a'], symbols['b'] = 1, 1
	row := last + dynamic(symbols, []int{0})
	refuses(t, "256 has no code", pack(row+strings.Repeat("0", 100)), plenty, api.ErrInflateCode)
	refuses(t, "and no more bits", pack(row), plenty, api.ErrInflateCode)
	refuses(t, "no symbol has one", pack(last+dynamic(make([]int, 286), []int{1})), plenty, api.ErrInflateCode)
	lone := make([]int, 257)
	lone['a'] = 1
	refuses(t, "a lone byte", pack(last+dynamic(lone, []int{1})), plenty, api.ErrInflateCode)
}

func TestCodesOfSymbolsThatAreNotFull(t *testing.T) { // P6.1
	behind := strings.Repeat("0", 100)
	for what, lens := range map[string]map[int]int{
		"under":         {'a': 2, 256: 2, 257: 2},
		"over":          {'a': 1, 'b': 1, 256: 1},
		"a lone long":   {256: 2},
		"under, of two": {'a': 1, 256: 2},
		"over, of many": {'a': 1, 'b': 2, 'c': 2, 256: 15},
		"under by one":  {'a': 1, 'b': 2, 'c': 3, 'd': 4, 'e': 5, 'f': 6, 256: 7},
	} {
		symbols := make([]int, 286)
		for symbol, long := range lens {
			symbols[symbol] = long
		}
		refuses(t, what, pack(last+dynamic(symbols, []int{1, 1})+behind), plenty, api.ErrInflateCode)
		refuses(t, what+", no more bits", pack(last+dynamic(symbols, []int{1, 1})), plenty, api.ErrInflateCode)
	}
}

func TestCodesOfDistancesThatAreNotFull(t *testing.T) { // P6.1
	symbols := make([]int, 286)
	symbols['a'], symbols[256] = 1, 1
	p := newPen(symbols, nil)
	for what, backs := range map[string][]int{
		"under":       {2, 2, 2},
		"over":        {1, 1, 1},
		"a lone long": {0, 0, 2},
		"lone of 15":  {15},
	} {
		// No run is in the data: the lengths alone are amiss.
		refuses(t, what, pack(last+dynamic(symbols, backs)+p.text("a")+p.end()), plenty, api.ErrInflateCode)
	}
}

func TestALoneCodeOfSymbols(t *testing.T) { // P6.1
	symbols := make([]int, 257)
	symbols[256] = 1
	row := last + dynamic(symbols, []int{0})
	tells(t, "its bit", pack(row+"0"), nil)
	refuses(t, "the other bit", pack(row+"1"), plenty, api.ErrInflateCode)
	refuses(t, "no bit", flush(row), plenty, api.ErrInflateEnd)
}

func TestALoneCodeOfDistancesAndNone(t *testing.T) { // P6.1
	symbols := make([]int, 286)
	symbols['a'], symbols[256], symbols[257], symbols[285] = 2, 2, 2, 2
	for _, far := range []int{1, 2, 4, 30} {
		none := make([]int, far)
		p := newPen(symbols, none)
		row := last + dynamic(symbols, none)
		tells(t, "none, and no run", pack(row+p.text("aa")+p.end()), []byte("aa"))
		refuses(t, "none, and a run", pack(row+p.text("aa")+p.long(3)+"00000000"+p.end()), plenty, api.ErrInflateCode)
		lone := make([]int, far)
		lone[far-1] = 1
		p = newPen(symbols, lone)
		row = last + dynamic(symbols, lone)
		tells(t, "lone, and no run", pack(row+p.text("aa")+p.end()), []byte("aa"))
		refuses(t, "lone, and the other bit", pack(row+p.text("aa")+p.long(3)+"1"+p.end()), plenty, api.ErrInflateCode)
		if far <= 4 {
			tells(t, "lone, and a run", pack(row+p.text("aaaa")+p.long(258)+"0"+p.end()), []byte(strings.Repeat("a", 262)))
		}
	}
}

func TestNoCodeOfDistancesWhereTheBitsEnd(t *testing.T) { // P6.1
	symbols := make([]int, 286)
	symbols['a'], symbols[256], symbols[257], symbols[258] = 2, 2, 2, 2
	for far := 1; far <= 30; far++ {
		none, lone := make([]int, far), make([]int, far)
		lone[0] = 1
		p := newPen(symbols, none)
		refuses(t, "none: no bits could be one", flush(last+dynamic(symbols, none)+p.text("a")+p.long(3)), plenty, api.ErrInflateCode)
		p = newPen(symbols, lone)
		refuses(t, "lone", flush(last+dynamic(symbols, lone)+p.text("a")+p.long(3)), plenty, api.ErrInflateEnd)
	}
}

func TestBitsThatEndInEachPlaceOfABlock(t *testing.T) { // P6.1
	p := fixedPen()
	for what, row := range map[string]string{
		"no block":                     "",
		"which alone":                  last,
		"half a kind":                  last + "1",
		"a kind":                       last + fixedKind,
		"half a symbol":                last + fixedKind + p.symbols['a'][:3],
		"a symbol":                     last + fixedKind + p.symbols['a'],
		"a run without further bits":   last + fixedKind + p.symbols[284],
		"a run with too few":           last + fixedKind + p.symbols[284] + "0000",
		"a run without a distance":     last + fixedKind + p.symbols[284] + "00000",
		"a run with half a distance":   last + fixedKind + p.symbols[284] + "00000" + p.backs[29][:4],
		"a distance without its bits":  last + fixedKind + p.symbols[284] + "00000" + p.backs[29],
		"a distance with too few bits": last + fixedKind + p.symbols[284] + "00000" + p.backs[29] + num(0, 12),
		"half of the lengths":          last + bare(257, 1, flat()),
		"17 without further bits":      last + bare(257, 1, flat()) + innerRow(flat(), 17),
		"18 with too few":              last + bare(257, 1, flat()) + innerRow(flat(), 18) + num(0, 6),
		"16 with too few":              last + bare(257, 1, flat()) + innerRow(flat(), 1, 16) + num(0, 1),
		"the first number":             last + dynamicKind + num(0, 4),
		"the second number":            last + dynamicKind + num(31, 5) + num(31, 4),
		"the third number":             last + dynamicKind + num(31, 10) + num(15, 3),
	} {
		refuses(t, what, flush(row), plenty, api.ErrInflateEnd)
	}
}

func TestCodesOfAllLengths(t *testing.T) { // P6.1
	for _, first := range []int{0, 100, 240, 241, 250, 255, 256} {
		symbols := slanted(286, first)
		if symbols[256] == 0 { // 256 takes the place of the last one
			symbols[first+15], symbols[256] = 0, 15
		}
		for _, far := range []int{0, 7, 14} {
			backs := slanted(30, far)
			p := newPen(symbols, backs)
			row := more + fixedKind + fixedPen().text("0123456789") + fixedPen().end() + last + dynamic(symbols, backs)
			text := "0123456789"
			for symbol, long := range symbols {
				if long > 0 && symbol < 256 {
					text += string([]byte{byte(symbol)})
					row += p.symbols[symbol]
				}
			}
			tells(t, fmt.Sprint(first, far), pack(row+p.end()), []byte(text))
			like(t, pack(row+strings.Repeat("1", 44)+p.end()), plenty)
		}
	}
}

// flush lays a fixed block ahead of a row, so that the row ends where a byte does.
func flush(row string) []byte {
	p := fixedPen()
	for ahead := range 8 {
		whole := more + fixedKind + p.text(strings.Repeat("\xff", ahead)) + p.end() + row
		if len(whole)%8 == 0 {
			return pack(whole)
		}
	}
	panic("no place")
}

// samples are right streams of all kinds, with what they tell.
func samples() map[string][]byte {
	p := fixedPen()
	symbols, backs := evenLens(286), evenLens(30)
	d := newPen(symbols, backs)
	lone := make([]int, 257)
	lone[256] = 1
	all := map[string][]byte{}
	add := func(row string, text string) { all[string(pack(row))] = []byte(text) }
	add(last+fixedKind+p.end(), "")
	add(stored("", last, nil), "")
	add(last+dynamic(lone, []int{0})+"0", "")
	add(stored("", last, []byte("a")), "a")
	add(stored("", last, []byte("stored bytes")), "stored bytes")
	add(last+fixedKind+p.text("abc")+p.run(258, 3)+p.end(), strings.Repeat("abc", 87))
	add(last+fixedKind+p.text("abc")+p.run(130, 2)+p.run(3, 133)+p.end(), "a"+strings.Repeat("bc", 66)+"abc")
	add(last+dynamic(symbols, backs)+d.text("abc")+d.run(258, 3)+d.text("!")+d.end(), strings.Repeat("abc", 87)+"!")
	row := stored(more+fixedKind+p.text("ab")+p.end(), more, []byte("cd"))
	add(row+last+dynamic(symbols, backs)+d.run(4, 4)+d.end(), "abcdabcd")
	return all
}

func TestAStreamThatIsCutOffAtEachOfItsBytes(t *testing.T) { // P6.1
	for s, text := range samples() {
		tells(t, fmt.Sprintf("%x", s), []byte(s), text)
		for cut := range len(s) {
			refuses(t, fmt.Sprintf("%x", s[:cut]), []byte(s[:cut]), plenty, api.ErrInflateEnd)
		}
	}
}

func TestMost(t *testing.T) { // P6.1, P6.2
	for s, text := range samples() {
		for _, most := range []int{len(text), len(text) + 1, len(text) + 1000, math.MaxInt} {
			out, n, e := inflate.Inflate([]byte(s), most)
			if e != api.OK || n != len(s) || !bytes.Equal(out, text) {
				t.Errorf("%x, most %d: %q, %d, %d", s, most, out, n, e)
			}
		}
		for most := range len(text) {
			refuses(t, fmt.Sprintf("%x, most %d", s, most), []byte(s), most, api.ErrInflateOver)
		}
		for _, most := range []int{-1, math.MinInt} {
			out, n, e := inflate.Inflate([]byte(s), most)
			out0, n0, e0 := inflate.Inflate([]byte(s), 0)
			if !bytes.Equal(out, out0) || n != n0 || e != e0 {
				t.Errorf("%x, most %d: %d, %d; most 0: %d, %d", s, most, n, e, n0, e0)
			}
		}
	}
}

func TestOverIsToldAsSoonAsItIsKnown(t *testing.T) { // P6.1
	p := fixedPen()
	b := pack(stored("", last, noise(5, 1000)))
	refuses(t, "stored, no byte is there", b[:5], 999, api.ErrInflateOver)
	refuses(t, "stored, some are there", b[:500], 999, api.ErrInflateOver)
	refuses(t, "stored, all may be told", b[:500], 1000, api.ErrInflateEnd)
	refuses(t, "stored, wrong", append(slices.Clone(b[:4]), 0), 0, api.ErrInflateSize)
	refuses(t, "stored, half of the numbers", b[:4], 0, api.ErrInflateEnd)
	refuses(t, "a byte, then what is wrong", pack(last+fixedKind+p.text("ab")+p.symbols[286]), 1, api.ErrInflateOver)
	refuses(t, "what is wrong, then a byte", pack(last+fixedKind+p.text("a")+p.symbols[286]+p.text("b")), 1, api.ErrInflateCode)
	refuses(t, "a run, then a wrong block", pack(more+fixedKind+p.text("a")+p.run(4, 1)+p.end()+last+wrongKind), 4, api.ErrInflateOver)
	refuses(t, "a wrong block ahead", pack(more+fixedKind+p.text("a")+p.run(3, 1)+p.end()+last+wrongKind), 4, api.ErrInflateBlock)
	refuses(t, "a run that is too far", pack(last+fixedKind+p.text("a")+p.run(4, 2)), 1, api.ErrInflateBack)
	for ahead := range 8 { // a distance that is cut off: it isn't known yet that there would be more
		text := strings.Repeat("\xff", ahead)
		row := last + fixedKind + p.text(text+"\x00") + p.long(258)
		b := pack(row + p.back(1))
		cut := len(row+p.back(1))/8 - 1
		refuses(t, "a run without all of its distance", b[:cut], len(text)+1, api.ErrInflateEnd)
		refuses(t, "a run with it", pack(row+p.back(1)), len(text)+1, api.ErrInflateOver)
	}
}

func TestTheFirstPlaceThatIsAmissIsTold(t *testing.T) { // P6.1
	p := fixedPen()
	wrong := map[api.Errno]string{
		api.ErrInflateBlock: more + wrongKind,
		api.ErrInflateCode:  more + fixedKind + p.symbols[287],
		api.ErrInflateBack:  more + fixedKind + p.run(3, 30000),
		api.ErrInflateOver:  more + fixedKind + p.text("12345"),
		api.ErrInflateSize:  more + storedKind + num(0, 48), // wherever its numbers begin
	}
	for first, row := range wrong {
		for _, second := range wrong {
			for ahead := range 4 {
				head := more + fixedKind + p.text("abc"[:ahead]) + p.end()
				refuses(t, fmt.Sprint(first), pack(head+row+second+strings.Repeat("0", 64)), 4, first)
			}
		}
	}
}

func TestWithMoreBytesBehindItAStreamIsReadAsWithout(t *testing.T) { // P6.2
	behinds := [][]byte{{0}, {0xff}, []byte("more"), noise(6, 1000), make([]byte, 70000)}
	for s, text := range samples() {
		for _, behind := range behinds {
			for _, most := range []int{-1, 0, len(text) - 1, len(text), plenty} {
				out, n, e := inflate.Inflate([]byte(s), most)
				out2, n2, e2 := inflate.Inflate(slices.Concat([]byte(s), behind), most)
				if !bytes.Equal(out, out2) || n != n2 || e != e2 {
					t.Errorf("%x: %q, %d, %d; %q, %d, %d", s, out, n, e, out2, n2, e2)
				}
			}
		}
		for other := range samples() {
			_, n, _ := inflate.Inflate([]byte(s+other), plenty)
			second, _, e := inflate.Inflate([]byte((s + other)[n:]), plenty)
			if e != api.OK || !bytes.Equal(second, samples()[other]) {
				t.Errorf("%x behind %x: %q, %d", other, s, second, e)
			}
		}
	}
}

func TestBytesOfWhichTheLastOneIsNotReadToItsEnd(t *testing.T) { // P6.1
	p := fixedPen()
	for long := range 17 {
		row := last + fixedKind + p.text(strings.Repeat("\xff", long)) + p.end()
		for fill := range 2 { // what stands behind the last bit is no matter
			filled := row + strings.Repeat(fmt.Sprint(fill), (8-len(row)%8)%8)
			tells(t, fmt.Sprint(long), pack(filled), bytes.Repeat([]byte{0xff}, long))
		}
	}
}

func TestWhatCompressFlateWrites(t *testing.T) { // P6.1, P6.2
	r := rand.New(rand.NewSource(7))
	for round := range 60 {
		text := someText(r, r.Intn(200000)>>(round%14))
		for _, level := range []int{-2, 0, 1, 5, 6, 9} {
			var packed bytes.Buffer
			w, err := flate.NewWriter(&packed, level)
			if err != nil {
				t.Fatal(err)
			}
			w.Write(text[:len(text)/3])
			if round%2 == 0 {
				w.Flush()
			}
			w.Write(text[len(text)/3:])
			w.Close()
			tells(t, fmt.Sprint(round, level), packed.Bytes(), text)
			b := slices.Concat(packed.Bytes(), []byte("behind"))
			out, n, e := inflate.Inflate(b, len(text))
			if !bytes.Equal(out, text) || n != packed.Len() || e != api.OK {
				t.Errorf("%d, %d: %d, %d", round, level, n, e)
			}
			if len(text) > 0 {
				refuses(t, fmt.Sprint(round, level), b, len(text)-1, api.ErrInflateOver)
			}
			refuses(t, fmt.Sprint(round, level), b[:r.Intn(packed.Len())], plenty, api.ErrInflateEnd)
		}
	}
}

// someText is noise, words, or runs.
func someText(r *rand.Rand, long int) []byte {
	letters := 1 + r.Intn(256)
	var text []byte
	for len(text) < long {
		if len(text) > 0 && r.Intn(3) == 0 {
			from := r.Intn(len(text))
			text = append(text, text[from:min(len(text), from+r.Intn(300))]...)
		} else {
			for range r.Intn(20) {
				text = append(text, byte(r.Intn(letters)))
			}
		}
	}
	return text[:long]
}

// anyLens are lengths by chance, mostly full.
func anyLens(r *rand.Rand, many int, must int) []int {
	lens := make([]int, many)
	symbols := r.Perm(many)[:1+r.Intn(min(many, 40))]
	if must >= 0 && !slices.Contains(symbols, must) {
		symbols[0] = must
	}
	even := evenLens(len(symbols))
	if len(symbols) == 1 {
		even[0] = r.Intn(2)
		if must >= 0 {
			even[0] = 1
		}
	}
	for i, symbol := range symbols {
		lens[symbol] = even[i]
	}
	return lens
}

// anyData are symbols by chance, with whatever bits their further ones are.
func anyData(r *rand.Rand, p pen) string {
	row := ""
	bits, _ := longs()
	farBits, _ := distances()
	for range r.Intn(30) {
		symbol := r.Intn(len(p.symbols))
		if r.Intn(2) == 0 {
			symbol = r.Intn(256)
		}
		if symbol == 256 || p.symbols[symbol] == "" {
			continue
		}
		row += p.symbols[symbol]
		if symbol >= 257 && symbol < 285 {
			row += num(r.Intn(64), bits[symbol-257])
		}
		if symbol > 256 {
			far := r.Intn(len(p.backs))
			if r.Intn(4) > 0 {
				far = r.Intn(min(10, len(p.backs)))
			}
			row += p.backs[far]
			if far < 30 {
				row += num(r.Intn(1<<13), farBits[far])
			}
		}
	}
	return row + p.end()
}

// anyStream are blocks by chance; most are right but for distances.
func anyStream(r *rand.Rand) []byte {
	row := ""
	for range r.Intn(4) {
		row = anyBlock(r, row, more)
	}
	if r.Intn(30) == 0 {
		return pack(row + last + wrongKind)
	}
	return pack(anyBlock(r, row, last))
}

func anyBlock(r *rand.Rand, row, which string) string {
	switch r.Intn(5) {
	case 0:
		return stored(row, which, noise(r.Int63(), r.Intn(400)))
	case 1:
		return row + which + fixedKind + anyData(r, fixedPen())
	}
	symbols := anyLens(r, 257+r.Intn(30), 256)
	backs := anyLens(r, 1+r.Intn(30), -1)
	return row + which + dynamicBy(anyInner(r), symbols, backs) + anyData(r, newPen(symbols, backs))
}

func TestStreamsByChance(t *testing.T) { // P6.1, P6.2
	r := rand.New(rand.NewSource(8))
	seen := map[api.Errno]int{}
	for range 2500 {
		b := anyStream(r)
		for range r.Intn(3) { // a turned bit, now and then
			b[r.Intn(len(b))] ^= 1 << r.Intn(8)
		}
		if r.Intn(3) == 0 {
			b = b[:r.Intn(len(b)+1)]
		}
		most := plenty
		if r.Intn(3) == 0 {
			most = r.Intn(1000) - 5
		}
		like(t, b, most)
		_, _, e := inflate.Inflate(b, most)
		seen[e]++
	}
	for _, e := range []api.Errno{api.OK, api.ErrInflateEnd, api.ErrInflateBlock, api.ErrInflateSize, api.ErrInflateCode, api.ErrInflateBack, api.ErrInflateOver} {
		if seen[e] < 10 {
			t.Errorf("too few streams with %d: %d", e, seen[e])
		}
	}
}

func TestBytesByChance(t *testing.T) { // P6.1, R1
	r := rand.New(rand.NewSource(9))
	for range 10000 {
		b := noise(r.Int63(), r.Intn(60))
		if len(b) > 0 && r.Intn(2) == 0 { // a dynamic block's head that may be
			b[0] = b[0]&^7 | 5
		}
		like(t, b, r.Intn(300))
	}
	for first := range 1 << 14 {
		like(t, []byte{byte(first), byte(first >> 8)}, 10)
	}
}

func TestAGreaterMostTellsTheSame(t *testing.T) { // P6.2
	r := rand.New(rand.NewSource(10))
	for range 1000 {
		b := anyStream(r)
		whole, n, e := inflate.Inflate(b, math.MaxInt)
		for range 10 {
			most := r.Intn(len(whole)+20) - 5
			out, n2, e2 := inflate.Inflate(b, most)
			if len(out) > max(most, 0) {
				t.Fatalf("%x: %d bytes, most %d", b, len(out), most)
			}
			if e2 == api.OK && (e != api.OK || n != n2 || !bytes.Equal(out, whole)) {
				t.Fatalf("%x: most %d tells another stream", b, most)
			}
			if e2 != api.OK && e2 != api.ErrInflateOver && e2 != e {
				t.Fatalf("%x: most %d: %d, not %d", b, most, e2, e)
			}
			if e == api.OK && most >= len(whole) && e2 != api.OK {
				t.Fatalf("%x: most %d: %d", b, most, e2)
			}
		}
	}
}

func TestWhatIsReadIsAlsoReadByCompressFlate(t *testing.T) { // P6.1
	r := rand.New(rand.NewSource(11))
	right := 0
	for range 2000 {
		b := anyStream(r)
		out, _, e := inflate.Inflate(b, plenty)
		theirs, err := io.ReadAll(flate.NewReader(bytes.NewReader(b)))
		if e == api.OK {
			right++
			if err != nil || !bytes.Equal(out, theirs) {
				t.Fatalf("%x: %d bytes, theirs %d, %v", b, len(out), len(theirs), err)
			}
		}
	}
	if right < 300 {
		t.Errorf("too few right streams: %d", right)
	}
}

func TestManyBlocksEnd(t *testing.T) { // R1
	row := strings.Repeat(more+fixedKind+"0000000", 200000)
	p := fixedPen()
	tells(t, "many fixed ones", pack(row+last+fixedKind+p.text("a")+p.end()), []byte("a"))
	refuses(t, "many, and no last one", pack(row[:len(row)/8*8]), plenty, api.ErrInflateEnd)
}

func TestWhatIsGivenStaysAsItWas(t *testing.T) { // R5
	for s := range samples() {
		b := []byte(s + "behind")
		inflate.Inflate(b, plenty)
		inflate.Inflate(b, 1)
		if string(b) != s+"behind" {
			t.Errorf("%x became %x", s, b)
		}
	}
}

func TestWhatIsToldIsTheCallersOwn(t *testing.T) { // R6
	for s, text := range samples() {
		b := []byte(s)
		first, _, _ := inflate.Inflate(b, plenty)
		second, _, _ := inflate.Inflate(b, plenty)
		clear(first[:cap(first)])
		if !bytes.Equal(second, text) || string(b) != s {
			t.Errorf("%x: to write into an answer changes another, or the bytes", s)
		}
		clear(b)
		if !bytes.Equal(second, text) {
			t.Errorf("%x: to write into the bytes changes an answer", s)
		}
	}
}
