package deflate_test

import (
	"bytes"
	"cmp"
	"compress/flate"
	"container/heap"
	"fmt"
	"io"
	"math"
	"math/rand"
	"slices"
	"sort"
	"strings"
	"testing"

	"wainload/api"
	"wainload/deflate"
	"wainload/inflate"
)

// Streams are written here as rows: texts of 0 and 1, in the order in which bits are laid.

// num is a number of n bits, its lowest first.
func num(v, n int) string {
	var row strings.Builder
	for i := range n {
		row.WriteByte('0' + byte(v>>i&1))
	}
	return row.String()
}

// pack makes bytes of a row, the rest of the last one filled with zeros.
func pack(row string) []byte {
	b := make([]byte, (len(row)+7)/8)
	for i := range len(row) {
		b[i/8] |= (row[i] - '0') << (i % 8)
	}
	return b
}

// unpack makes a row of bytes.
func unpack(b []byte) string {
	var row strings.Builder
	for _, x := range b {
		row.WriteString(num(int(x), 8))
	}
	return row.String()
}

// number is one that a row begins with, its lowest bit first.
func number(row string, n int) int {
	v := 0
	for i := range n {
		v |= int(row[i]-'0') << i
	}
	return v
}

// span are the least number that a symbol stands for, and how many further bits it has.
type span struct {
	least, further int
}

// most is the greatest number that it stands for.
func (s span) most() int {
	return s.least + 1<<s.further - 1
}

// longs are those of the symbols 257 to 284, as RFC 1951 has them.
var longs = []span{
	{3, 0}, {4, 0}, {5, 0}, {6, 0}, {7, 0}, {8, 0}, {9, 0}, {10, 0},
	{11, 1}, {13, 1}, {15, 1}, {17, 1}, {19, 2}, {23, 2}, {27, 2}, {31, 2},
	{35, 3}, {43, 3}, {51, 3}, {59, 3}, {67, 4}, {83, 4}, {99, 4}, {115, 4},
	{131, 5}, {163, 5}, {195, 5}, {227, 5},
}

// fars are those of the distances' symbols 0 to 29.
var fars = []span{
	{1, 0}, {2, 0}, {3, 0}, {4, 0}, {5, 1}, {7, 1}, {9, 2}, {13, 2}, {17, 3}, {25, 3},
	{33, 4}, {49, 4}, {65, 5}, {97, 5}, {129, 6}, {193, 6}, {257, 7}, {385, 7}, {513, 8}, {769, 8},
	{1025, 9}, {1537, 9}, {2049, 10}, {3073, 10}, {4097, 11}, {6145, 11}, {8193, 12}, {12289, 12}, {16385, 13}, {24577, 13},
}

// order is that of the numbers in a dynamic block.
var order = []int{16, 17, 18, 0, 8, 7, 9, 6, 10, 5, 11, 4, 12, 3, 13, 2, 14, 1, 15}

// greatest is the greatest symbol whose least number is not above it, and the further bits as a row.
func greatest(spans []span, v int) (int, string) {
	i := len(spans) - 1
	for spans[i].least > v {
		i--
	}
	return i, num(v-spans[i].least, spans[i].further)
}

// symbolOf is that of a token, and its further bits: P8.2 word by word.
func symbolOf(t api.Token) (int, string) {
	switch t.Long {
	case 0:
		return int(t.Byte), ""
	case api.LongRun:
		return 285, ""
	}
	i, row := greatest(longs, t.Long)
	return 257 + i, row
}

// counts is how often each symbol is, the end's among them, and each distance's.
func counts(l []api.Token) (symbols, backs []int) {
	symbols, backs = make([]int, 286), make([]int, 30)
	for _, t := range l {
		symbol, _ := symbolOf(t)
		symbols[symbol]++
		if t.Long > 0 {
			back, _ := greatest(fars, t.Back)
			backs[back]++
		}
	}
	symbols[256]++
	return symbols, backs
}

// codesOf tells the codes of lengths as rows, "" of a symbol that has none, and whether the
// lengths may be (lone or not): chapter 4 word by word.
func codesOf(lens []int, lone bool) ([]string, bool) {
	var having []int
	weight := 0
	for symbol, long := range lens {
		if long > 0 {
			having = append(having, symbol)
			weight += 1 << (15 - long)
		}
	}
	few := len(having) == 0 || len(having) == 1 && lens[having[0]] == 1
	if weight != 1<<15 && !(lone && few) {
		return nil, false
	}
	slices.SortStableFunc(having, func(a, b int) int { return cmp.Compare(lens[a], lens[b]) })
	codes := make([]string, len(lens))
	code := 0
	for i, symbol := range having {
		if i > 0 {
			code = (code + 1) << (lens[symbol] - lens[having[i-1]])
		}
		codes[symbol] = fmt.Sprintf("%0*b", lens[symbol], code)
	}
	return codes, true
}

// fixedLens are those that chapter 6 says of a fixed block.
func fixedLens() (symbols, backs []int) {
	symbols = slices.Concat(slices.Repeat([]int{8}, 144), slices.Repeat([]int{9}, 112), slices.Repeat([]int{7}, 24), slices.Repeat([]int{8}, 8))
	return symbols, slices.Repeat([]int{5}, 32)
}

// dataRow are tokens and the end, by codes of these lengths.
func dataRow(l []api.Token, symbols, backs []int) (string, bool) {
	codes, ok := codesOf(symbols, true)
	farCodes, okToo := codesOf(backs, true)
	if !ok || !okToo {
		return "", false
	}
	var row strings.Builder
	for _, t := range l {
		symbol, further := symbolOf(t)
		row.WriteString(codes[symbol] + further)
		if t.Long > 0 {
			symbol, further = greatest(fars, t.Back)
			row.WriteString(farCodes[symbol] + further)
		}
	}
	row.WriteString(codes[256])
	return row.String(), true
}

// slowStored is P8.1 word by word.
func slowStored(data []byte) []byte {
	var out []byte
	for {
		n, last := len(data), byte(1)
		if n > 65535 {
			n, last = 65535, 0
		}
		out = append(out, last, byte(n), byte(n>>8), ^byte(n), ^byte(n>>8))
		out = append(out, data[:n]...)
		if last == 1 {
			return out
		}
		data = data[n:]
	}
}

// slowFixed is P8.2 word by word, of tokens that are Right.
func slowFixed(l []api.Token) []byte {
	symbols, backs := fixedLens()
	row, _ := dataRow(l, symbols, backs)
	return pack("1" + "10" + row)
}

// head is what a dynamic block says ahead of its data.
type head struct {
	symbols, backs []int
	numbers        []int // that the lengths are told in
	rest           string
}

// readHead is chapter 6's Dynamic; false, if something is amiss. The row begins behind the kind.
func readHead(row string) (head, bool) {
	take := func(n int) int {
		v := number(row, n)
		row = row[n:]
		return v
	}
	many, far, told := take(5)+257, take(5)+1, take(4)+4
	inner := make([]int, 19)
	for i := range told {
		inner[order[i]] = take(3)
	}
	codes, ok := codesOf(inner, false)
	if !ok || many > 286 || far > 30 {
		return head{}, false
	}
	h := head{}
	var lens []int
	for len(lens) < many+far {
		n := slices.IndexFunc(codes, func(c string) bool { return c != "" && strings.HasPrefix(row, c) })
		if n < 0 || n == 16 && len(lens) == 0 {
			return head{}, false
		}
		row = row[len(codes[n]):]
		h.numbers = append(h.numbers, n)
		switch n {
		case 16:
			lens = append(lens, slices.Repeat(lens[len(lens)-1:], 3+take(2))...)
		case 17:
			lens = append(lens, make([]int, 3+take(3))...)
		case 18:
			lens = append(lens, make([]int, 11+take(7))...)
		default:
			lens = append(lens, n)
		}
	}
	if len(lens) != many+far || lens[256] == 0 {
		return head{}, false
	}
	h.symbols, h.backs, h.rest = lens[:many], lens[many:], row
	return h, true
}

// cost is how many bits the symbols have.
func cost(often, lens []int) int {
	sum := 0
	for i, n := range often {
		if n > 0 {
			sum += n * lens[i]
		}
	}
	return sum
}

// occurring are those that are more than 0 times, the most often first.
func occurring(often []int) []int {
	var l []int
	for _, n := range often {
		if n > 0 {
			l = append(l, n)
		}
	}
	sort.Sort(sort.Reverse(sort.IntSlice(l)))
	return l
}

// fewest is how many bits symbols have at the least, with codes of at most so many bits. From the
// longest length up it is asked what those from the i-th on cost below that length, if so many
// codes of it are free: the i-th takes one of them, or all of them are made twice as many, one bit
// longer. (A symbol that is more often never needs a longer code.)
func fewest(often []int, most int) int {
	l := occurring(often)
	const never = math.MaxInt / 2
	below := make([][]int, len(l)+1)
	for long := most; long >= 0; long-- {
		here := make([][]int, len(l)+1)
		here[len(l)] = make([]int, len(l)+1)
		behind := 0
		for i := len(l) - 1; i >= 0; i-- {
			behind += l[i]
			here[i] = slices.Repeat([]int{never}, len(l)+1)
			for free := 1; free <= len(l); free++ {
				here[i][free] = here[i+1][free-1]
				if long < most {
					here[i][free] = min(here[i][free], behind+below[i][min(2*free, len(l))])
				}
			}
		}
		below = here
	}
	return below[0][1]
}

type intHeap struct{ sort.IntSlice }

func (h *intHeap) Push(x any) { h.IntSlice = append(h.IntSlice, x.(int)) }

func (h *intHeap) Pop() any {
	x := h.IntSlice[len(h.IntSlice)-1]
	h.IntSlice = h.IntSlice[:len(h.IntSlice)-1]
	return x
}

// unbound is how many bits symbols have with codes of any length, by Huffman's own rule.
func unbound(often []int) int {
	h := &intHeap{occurring(often)}
	heap.Init(h)
	sum := 0
	for h.Len() > 1 {
		two := heap.Pop(h).(int) + heap.Pop(h).(int)
		sum += two
		heap.Push(h, two)
	}
	return sum
}

// tell is what tokens tell.
func tell(l []api.Token) []byte {
	var out []byte
	for _, t := range l {
		if t.Long == 0 {
			out = append(out, t.Byte)
		}
		for range t.Long {
			out = append(out, out[len(out)-t.Back])
		}
	}
	return out
}

// reads holds a stream against P8.5, and against another reader of RFC 1951.
func reads(t *testing.T, what string, s, text []byte) {
	t.Helper()
	b, n, e := inflate.Inflate(s, len(text))
	if e != api.OK || n != len(s) || !bytes.Equal(b, text) {
		t.Fatalf("%s: Inflate tells %d bytes of %d, read %d of %d, error %d", what, len(b), len(text), n, len(s), e)
	}
	in := bytes.NewReader(s)
	b, err := io.ReadAll(flate.NewReader(in))
	if err != nil || in.Len() != 0 || !bytes.Equal(b, text) {
		t.Fatalf("%s: compress/flate tells %d bytes of %d, leaves %d: %v", what, len(b), len(text), in.Len(), err)
	}
}

// fixedOf holds Fixed against P8.2 and P8.5.
func fixedOf(t *testing.T, what string, l []api.Token) []byte {
	t.Helper()
	s, ok := deflate.Fixed(l)
	if want := slowFixed(l); !ok || !bytes.Equal(s, want) {
		t.Fatalf("%s: Fixed is %v, %d bytes (%.40x), not %d (%.40x)", what, ok, len(s), s, len(want), want)
	}
	reads(t, what+", fixed", s, tell(l))
	return s
}

// dynamicOf holds Dynamic against P8.3 and P8.5.
func dynamicOf(t *testing.T, what string, l []api.Token) head {
	t.Helper()
	s, ok := deflate.Dynamic(l)
	if !ok {
		t.Fatalf("%s: Dynamic is refused", what)
	}
	reads(t, what+", dynamic", s, tell(l))
	row := unpack(s)
	if row[:3] != "1"+"01" {
		t.Fatalf("%s: it begins with %s", what, row[:3])
	}
	h, ok := readHead(row[3:])
	if !ok {
		t.Fatalf("%s: lengths that can't be read", what)
	}
	data, ok := dataRow(l, h.symbols, h.backs)
	if !ok || !strings.HasPrefix(h.rest, data) || len(h.rest)-len(data) > 7 {
		t.Fatalf("%s: other symbols than with Fixed (or more): %d bits, not %d", what, len(h.rest), len(data))
	}
	symbols, backs := counts(l)
	few(t, what+", symbols", symbols, h.symbols)
	few(t, what+", distances", backs, h.backs)
	return h
}

// few holds lengths against the fewest bits, where at least two symbols occur.
func few(t *testing.T, what string, often, lens []int) {
	t.Helper()
	if long := slices.Max(lens); long > api.MaxBits {
		t.Fatalf("%s: a length of %d", what, long)
	}
	if len(occurring(often)) < 2 {
		return
	}
	if got, want := cost(often, lens), fewest(often, api.MaxBits); got != want {
		t.Fatalf("%s: %d bits, not %d", what, got, want)
	}
}

// lit, run and lits make tokens.
func lit(b byte) api.Token { return api.Token{Byte: b} }

func run(long, back int) api.Token { return api.Token{Long: long, Back: back} }

func lits(text ...byte) []api.Token {
	var l []api.Token
	for _, b := range text {
		l = append(l, lit(b))
	}
	return l
}

// telling are tokens that tell n letters x.
func telling(n int) []api.Token {
	var l []api.Token
	for n > 0 {
		long := min(n, api.LongRun)
		if len(l) == 0 || long < 3 {
			l = append(l, lit('x'))
			n--
			continue
		}
		l = append(l, run(long, 1))
		n -= long
	}
	return l
}

// noise are bytes by chance.
func noise(seed int64, n int) []byte {
	b := make([]byte, n)
	rand.New(rand.NewSource(seed)).Read(b)
	return b
}

// unlike are bytes of which no three come again.
var unlike = makeUnlike(131070)

func makeUnlike(n int) []byte {
	r := rand.New(rand.NewSource(12))
	data := []byte{1, 2}
	seen := map[[3]byte]bool{}
	for len(data) < n {
		data = append(data, byte(r.Intn(256)))
		if three := [3]byte(data[len(data)-3:]); !seen[three] {
			seen[three] = true
			continue
		}
		data = data[:len(data)-1]
	}
	return data
}

// text are words by chance, in n bytes.
func text(seed int64, n int) []byte {
	r := rand.New(rand.NewSource(seed))
	words := strings.Fields("the tree of files and folders that is read from an archive is written as another one in which nothing stands twice")
	var b []byte
	for len(b) < n {
		b = append(append(b, words[r.Intn(len(words))]...), ' ')
	}
	return b[:n]
}
