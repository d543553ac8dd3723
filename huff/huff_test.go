package huff_test

import (
	"bytes"
	"cmp"
	"fmt"
	"math"
	"math/rand"
	"slices"
	"strings"
	"testing"

	"wainload/api"
	"wainload/bits"
	"wainload/huff"
)

const mostSymbols = 320

// slowMake is P4.1 word by word: the codes as texts of 0 and 1, "" of a symbol that has none.
func slowMake(lens []int, lone bool) ([]string, api.Errno) {
	if len(lens) > mostSymbols {
		return nil, api.ErrArg
	}
	var having []int
	weight := 0
	for symbol, long := range lens {
		if long < 0 || long > api.MaxBits {
			return nil, api.ErrArg
		}
		if long > 0 {
			having = append(having, symbol)
			weight += int(math.Pow(2, float64(api.MaxBits-long)))
		}
	}
	if weight > 32768 {
		return nil, api.ErrHuffOver
	}
	few := len(having) == 0 || len(having) == 1 && lens[having[0]] == 1
	if weight < 32768 && !(lone && few) {
		return nil, api.ErrHuffUnder
	}
	slices.SortStableFunc(having, func(a, b int) int { return cmp.Compare(lens[a], lens[b]) })
	codes := make([]string, len(lens))
	code := 0
	for i, symbol := range having {
		if i > 0 {
			code = (code + 1) << (lens[symbol] - lens[having[i-1]])
		}
		codes[symbol] = fmt.Sprintf("%0*b", lens[symbol], code)
	}
	return codes, api.OK
}

// slowNext is P4.2 word by word; it tells also how many bits the code has.
func slowNext(codes []string, row string) (int, int, api.Errno) {
	mayBegin := false
	for symbol, code := range codes {
		switch {
		case code == "":
		case strings.HasPrefix(row, code):
			return symbol, len(code), api.OK
		case strings.HasPrefix(code, row):
			mayBegin = true
		}
	}
	if mayBegin {
		return 0, 0, api.ErrHuffEnd
	}
	return 0, 0, api.ErrHuffCode
}

// rowOf are the bits of bytes, in the order in which they are read.
func rowOf(b []byte) string {
	var row strings.Builder
	for _, x := range b {
		for i := range 8 {
			row.WriteByte('0' + x>>i&1)
		}
	}
	return row.String()
}

// laid are the bits of a writer, without those that fill its last byte up.
func laid(w *bits.Writer) string {
	return rowOf(w.Data())[:w.Len()]
}

// at reads the bits of a row. A row ends anywhere, bytes do not: it stands at their end,
// and what fills the first one up has been read already.
func at(t *testing.T, row string) *bits.Reader {
	t.Helper()
	ahead := (8 - len(row)%8) % 8
	b := make([]byte, (ahead+len(row))/8)
	for i, c := range row {
		b[(ahead+i)/8] |= byte(c-'0') << ((ahead + i) % 8)
	}
	r := bits.NewReader(b)
	if _, ok := r.Bits(ahead); !ok || r.Left() != len(row) {
		t.Fatal("the row is not as it should be")
	}
	return r
}

// fullLens are lengths that are full, of so many symbols with a code and so many without one.
func fullLens(rnd *rand.Rand, having, others int) []int {
	lens := []int{1, 1}
	for len(lens) < having {
		// Mostly the longer ones are split, so that great lengths come too.
		i := max(rnd.Intn(len(lens)), rnd.Intn(len(lens)))
		if lens[i] < api.MaxBits {
			lens[i]++
			lens = append(lens, lens[i])
		}
	}
	lens = append(lens, make([]int, others)...)
	rnd.Shuffle(len(lens), func(i, j int) { lens[i], lens[j] = lens[j], lens[i] })
	return lens
}

// staircase are the lengths 1, 2, 3, .. up to MaxBits, which comes twice.
func staircase() []int {
	var lens []int
	for long := 1; long <= api.MaxBits; long++ {
		lens = append(lens, long)
	}
	return append(lens, api.MaxBits)
}

// deflateLens are the lengths that deflate has without telling them.
func deflateLens() []int {
	return slices.Concat(slices.Repeat([]int{8}, 144), slices.Repeat([]int{9}, 112), slices.Repeat([]int{7}, 24), slices.Repeat([]int{8}, 8))
}

// widest are 320 full lengths: 192 of 8 bits and 128 of 9.
func widest() []int {
	return slices.Concat(slices.Repeat([]int{9}, 128), slices.Repeat([]int{8}, 192))
}

// manyLens are full lengths of all kinds.
func manyLens() [][]int {
	rnd := rand.New(rand.NewSource(4))
	all := [][]int{{1, 1}, {0, 1, 0, 1, 0}, {2, 1, 3, 3}, {3, 3, 1, 2}, {2, 2, 2, 2}, staircase(), deflateLens(), widest()}
	reversed := staircase()
	slices.Reverse(reversed)
	all = append(all, reversed)
	for range 60 {
		having := 2 + rnd.Intn(mostSymbols-1)
		all = append(all, fullLens(rnd, having, rnd.Intn(mostSymbols-having+1)))
	}
	for range 60 {
		all = append(all, fullLens(rnd, 2+rnd.Intn(12), rnd.Intn(6)))
	}
	return all
}

func wantMake(t *testing.T, lens []int, lone bool, want api.Errno) {
	t.Helper()
	if c, e := huff.Make(lens, lone); e != want || (c != nil) != (want == api.OK) {
		t.Errorf("Make(%v, %v): %v, %d, not %d", lens, lone, c != nil, e, want)
	}
}

func mustMake(t *testing.T, lens []int, lone bool) *huff.Code {
	t.Helper()
	c, e := huff.Make(lens, lone)
	if e != api.OK || c == nil {
		t.Fatalf("Make(%v, %v): %d", lens, lone, e)
	}
	return c
}

// codeOf is the code that Put lays, as a text of 0 and 1.
func codeOf(c *huff.Code, symbol int) (string, bool) {
	w := bits.NewWriter()
	ok := c.Put(w, symbol)
	return laid(w), ok
}

// wantCodes asks Put for the code of each symbol.
func wantCodes(t *testing.T, c *huff.Code, want []string) {
	t.Helper()
	for symbol, code := range want {
		if got, ok := codeOf(c, symbol); got != code || ok != (code != "") {
			t.Errorf("Put of %d: %q, %v, not %q", symbol, got, ok, code)
		}
	}
}

func wantNext(t *testing.T, c *huff.Code, row string, symbol int, e api.Errno) {
	t.Helper()
	if gotS, gotE := c.Next(at(t, row)); gotS != symbol || gotE != e {
		t.Errorf("Next of %q: %d, %d, not %d, %d", row, gotS, gotE, symbol, e)
	}
}

func TestMakeOfTheExamples(t *testing.T) { // P4.1
	wantCodes(t, mustMake(t, []int{2, 1, 3, 3}, false), []string{"10", "0", "110", "111"})
	wantCodes(t, mustMake(t, []int{2, 1, 3, 3}, true), []string{"10", "0", "110", "111"})
	wantCodes(t, mustMake(t, []int{0, 1}, true), []string{"", "0"})
	wantMake(t, []int{1, 1, 1}, false, api.ErrHuffOver)
	wantMake(t, []int{1, 1, 1}, true, api.ErrHuffOver)
	wantMake(t, []int{2, 2}, false, api.ErrHuffUnder)
	wantMake(t, []int{2, 2}, true, api.ErrHuffUnder)
	wantMake(t, []int{0, 1}, false, api.ErrHuffUnder)
}

func TestMakeOfFewSymbolsAsThePromiseSays(t *testing.T) { // P4.1
	kinds := []int{-1, 0, 1, 2, 3, api.MaxBits, api.MaxBits + 1}
	var try func(lens []int)
	try = func(lens []int) {
		for _, lone := range []bool{false, true} {
			want, e := slowMake(lens, lone)
			wantMake(t, lens, lone, e)
			if e == api.OK {
				wantCodes(t, mustMake(t, lens, lone), want)
			}
		}
		if len(lens) < 5 {
			for _, long := range kinds {
				try(append(slices.Clone(lens), long))
			}
		}
	}
	try(nil)
}

func TestMakeOfManySymbolsAsThePromiseSays(t *testing.T) { // P4.1
	for _, lens := range manyLens() {
		want, e := slowMake(lens, false)
		if e != api.OK {
			t.Fatal("the lengths are not full:", lens)
		}
		wantCodes(t, mustMake(t, lens, false), want)
		wantCodes(t, mustMake(t, lens, true), want)
	}
}

func TestMakeRefusesLengthsThatNoCodeHas(t *testing.T) { // P4.1
	for _, long := range []int{-1, -2, api.MaxBits + 1, api.MaxBits + 2, 63, 64, math.MinInt, math.MaxInt} {
		for _, lens := range [][]int{{long}, {1, 1, long}, {long, 1, 1}, {1, long, 1}} {
			wantMake(t, lens, false, api.ErrArg)
			wantMake(t, lens, true, api.ErrArg)
		}
	}
}

func TestMakeTakesThreeHundredAndTwentySymbols(t *testing.T) { // P4.1
	most := append([]int{1, 1}, make([]int, mostSymbols-2)...)
	wantMake(t, most, false, api.OK)
	wantMake(t, append(most, 0), false, api.ErrArg)
	wantMake(t, widest(), false, api.OK)
	wantMake(t, make([]int, mostSymbols), true, api.OK)
	wantMake(t, make([]int, mostSymbols), false, api.ErrHuffUnder)
	for _, n := range []int{mostSymbols + 1, 1000, 70000} {
		wantMake(t, make([]int, n), true, api.ErrArg)
		wantMake(t, make([]int, n), false, api.ErrArg)
	}
}

func TestMakeNamesAWrongLengthAheadOfWrongWeight(t *testing.T) { // P4.1, R1
	wantMake(t, []int{1, 1, 1, -1}, true, api.ErrArg)
	wantMake(t, []int{1, 1, 1, 16}, true, api.ErrArg)
	wantMake(t, []int{2, 16}, false, api.ErrArg)
	wantMake(t, slices.Repeat([]int{1}, mostSymbols+1), true, api.ErrArg)
	wantMake(t, slices.Repeat([]int{1}, mostSymbols), true, api.ErrHuffOver)
}

func TestMakeSeesOneCodeTooManyOrTooFew(t *testing.T) { // P4.1
	lens := staircase()
	wantMake(t, lens, false, api.OK)
	wantMake(t, append(slices.Clone(lens), api.MaxBits), false, api.ErrHuffOver)
	wantMake(t, append(slices.Clone(lens), api.MaxBits), true, api.ErrHuffOver)
	wantMake(t, lens[:len(lens)-1], false, api.ErrHuffUnder)
	wantMake(t, lens[:len(lens)-1], true, api.ErrHuffUnder)
	rnd := rand.New(rand.NewSource(41))
	for range 200 {
		lens := fullLens(rnd, 3+rnd.Intn(200), 1+rnd.Intn(100))
		none, some := slices.Index(lens, 0), slices.IndexFunc(lens, func(l int) bool { return l > 0 })
		over := slices.Clone(lens)
		over[none] = api.MaxBits
		wantMake(t, over, rnd.Intn(2) == 0, api.ErrHuffOver)
		under := slices.Clone(lens)
		under[some] = 0
		wantMake(t, under, rnd.Intn(2) == 0, api.ErrHuffUnder)
	}
}

func TestMakeOfLoneCodes(t *testing.T) { // P4.1
	for _, x := range []struct {
		lens []int
		e    api.Errno
	}{
		{nil, api.OK}, {[]int{}, api.OK}, {[]int{0}, api.OK}, {[]int{0, 0, 0}, api.OK},
		{[]int{1}, api.OK}, {[]int{0, 1}, api.OK}, {[]int{1, 0, 0}, api.OK},
		{[]int{2}, api.ErrHuffUnder}, {[]int{0, 2}, api.ErrHuffUnder}, {[]int{0, 0, 15}, api.ErrHuffUnder},
		{[]int{1, 2}, api.ErrHuffUnder}, {[]int{2, 2}, api.ErrHuffUnder}, {[]int{1, 15}, api.ErrHuffUnder},
	} {
		wantMake(t, x.lens, true, x.e)
		wantMake(t, x.lens, false, api.ErrHuffUnder)
	}
	for _, lens := range [][]int{{1, 1}, {1, 0, 1}} {
		wantMake(t, lens, true, api.OK)
		wantMake(t, lens, false, api.OK)
	}
}

func TestMakeCopiesTheLengths(t *testing.T) { // P4.1, R5, R6
	for _, first := range []int{0, 1, 3, -1, 99} {
		lens := []int{2, 1, 3, 3}
		c := mustMake(t, lens, false)
		for i := range lens {
			lens[i] = first
		}
		wantCodes(t, c, []string{"10", "0", "110", "111"})
		wantNext(t, c, "110", 2, api.OK)
		wantNext(t, c, "10", 0, api.OK)
	}
}

func TestLengthsStayAsTheyWere(t *testing.T) { // R5
	for _, lens := range [][]int{{2, 1, 3, 3}, {1, 1, 1}, {2, 2}, {-1, 16}, {0, 1}, staircase()} {
		was := slices.Clone(lens)
		huff.Make(lens, true)
		huff.Make(lens, false)
		huff.Codes(lens)
		if !slices.Equal(lens, was) {
			t.Errorf("lens %v became %v", was, lens)
		}
	}
}

func TestNextReadsEachCode(t *testing.T) { // P4.2
	for _, lens := range manyLens() {
		c := mustMake(t, lens, false)
		codes, _ := slowMake(lens, false)
		for symbol, code := range codes {
			if code == "" {
				continue
			}
			for _, behind := range []string{"", "0", "1", "0110100"} {
				r := at(t, code+behind)
				if got, e := c.Next(r); got != symbol || e != api.OK || r.Left() != len(behind) {
					t.Fatalf("%v: Next of %q: %d, %d, %d bits left", lens, code+behind, got, e, r.Left())
				}
			}
		}
	}
}

func TestNextGoesThroughAnyBits(t *testing.T) { // P4.2
	rnd := rand.New(rand.NewSource(42))
	for _, lens := range append(manyLens(), []int{1}, []int{0, 0, 1}, nil, []int{0, 0}) {
		c := mustMake(t, lens, true)
		codes, _ := slowMake(lens, true)
		b := make([]byte, 40)
		rnd.Read(b)
		r, row := bits.NewReader(b), rowOf(b)
		for {
			symbol, long, e := slowNext(codes, row)
			got, gotE := c.Next(r)
			if got != symbol || gotE != e {
				t.Fatalf("%v: Next of %q: %d, %d, not %d, %d", lens, row, got, gotE, symbol, e)
			}
			if e != api.OK {
				break
			}
			row = row[long:]
			if r.Left() != len(row) {
				t.Fatalf("%v: %d bits left, not %d", lens, r.Left(), len(row))
			}
		}
	}
}

func TestNextAtTheEndOfTheBits(t *testing.T) { // P4.2
	for _, lens := range manyLens() {
		c := mustMake(t, lens, false)
		codes, _ := slowMake(lens, false)
		for _, code := range codes {
			for n := range len(code) {
				wantNext(t, c, code[:n], 0, api.ErrHuffEnd)
			}
		}
	}
	c := mustMake(t, []int{2, 1, 3, 3}, false)
	r := bits.NewReader([]byte{0xff})
	for _, want := range []api.Errno{api.OK, api.OK, api.ErrHuffEnd} {
		if _, e := c.Next(r); e != want {
			t.Errorf("Next: %d, not %d", e, want)
		}
	}
}

func TestNextOfBitsThatBeginNoCode(t *testing.T) { // P4.2
	for _, lens := range [][]int{{1}, {0, 1}, {1, 0, 0}, append(make([]int, mostSymbols-1), 1)} {
		c := mustMake(t, lens, true)
		symbol := slices.Index(lens, 1)
		for _, behind := range []string{"", "0", "1", "00000000", "11111111111111111"} {
			wantNext(t, c, "0"+behind, symbol, api.OK)
			wantNext(t, c, "1"+behind, 0, api.ErrHuffCode)
		}
		wantNext(t, c, "", 0, api.ErrHuffEnd)
	}
}

func TestNextOfACodeWithoutSymbols(t *testing.T) { // P4.2
	for _, lens := range [][]int{nil, {}, {0}, make([]int, mostSymbols)} {
		c := mustMake(t, lens, true)
		for _, row := range []string{"", "0", "1", "0000000000000000", "1111111111111111"} {
			wantNext(t, c, row, 0, api.ErrHuffCode)
		}
	}
}

func TestNextOfSeveralReadersAndCodes(t *testing.T) { // P4.2, R7
	c, d := mustMake(t, []int{2, 1, 3, 3}, false), mustMake(t, []int{1, 1}, false)
	r, s := at(t, "10110"+"1"+"0"), at(t, "0"+"111")
	for i, x := range []struct {
		c *huff.Code
		r *bits.Reader
		v int
		e api.Errno
	}{
		{c, r, 0, api.OK}, {c, s, 1, api.OK}, {c, r, 2, api.OK}, {d, r, 1, api.OK}, {c, s, 3, api.OK},
		{c, r, 1, api.OK}, {c, s, 0, api.ErrHuffEnd}, {d, r, 0, api.ErrHuffEnd},
	} {
		if v, e := x.c.Next(x.r); v != x.v || e != x.e {
			t.Errorf("call %d: %d, %d, not %d, %d", i, v, e, x.v, x.e)
		}
	}
}

func TestPutLaysTheCodeBehindWhatIsThere(t *testing.T) { // P4.3
	c := mustMake(t, []int{2, 1, 3, 3, 0}, false)
	want := ""
	w := bits.NewWriter()
	for i, symbol := range []int{3, 0, 1, 2, 2, 1, 0, 3, 1, 1, 1} {
		if !c.Put(w, symbol) {
			t.Errorf("call %d: false", i)
		}
		want += []string{"10", "0", "110", "111"}[symbol]
		if laid(w) != want {
			t.Errorf("call %d: %q is laid, not %q", i, laid(w), want)
		}
	}
}

func TestPutLaysLongCodesHighestBitFirst(t *testing.T) { // P4.3
	lens := staircase()
	c := mustMake(t, lens, false)
	for symbol, long := range lens {
		want := strings.Repeat("1", long-1) + "0"
		if symbol == len(lens)-1 {
			want = strings.Repeat("1", long)
		}
		if got, ok := codeOf(c, symbol); got != want || !ok {
			t.Errorf("Put of %d: %q, %v, not %q", symbol, got, ok, want)
		}
	}
}

func TestPutLaysNothingWithoutACode(t *testing.T) { // P4.3, R2
	for _, x := range []struct {
		lens []int
		lone bool
		no   []int
	}{
		{[]int{2, 1, 3, 3}, false, []int{-1, 4, 5, 320, math.MinInt, math.MaxInt}},
		{[]int{0, 1, 0, 1, 0}, false, []int{-1, 0, 2, 4, 5, math.MinInt, math.MaxInt}},
		{[]int{0, 1}, true, []int{-1, 0, 2}},
		{[]int{0, 0}, true, []int{-1, 0, 1, 2}},
		{nil, true, []int{-1, 0, 1, math.MinInt, math.MaxInt}},
	} {
		c := mustMake(t, x.lens, x.lone)
		for _, symbol := range x.no {
			for _, ahead := range []int{0, 1, 7, 8, 13} {
				w := bits.NewWriter()
				w.Bits(5555, ahead)
				was := w.Data()
				if c.Put(w, symbol) || w.Len() != ahead || !bytes.Equal(w.Data(), was) {
					t.Errorf("%v: Put of %d lays something, or tells true", x.lens, symbol)
				}
			}
		}
	}
}

func TestCodesOfTheExamples(t *testing.T) { // P4.4
	for _, x := range []struct{ lens, want []int }{
		{[]int{2, 1, 3, 3}, []int{2, 0, 6, 7}},
		{[]int{0, 1}, []int{0, 0}},
		{[]int{3, 3, 3, 3, 3, 2, 4, 4}, []int{2, 3, 4, 5, 6, 0, 14, 15}},
		{[]int{1}, []int{0}},
		{[]int{1, 0, 1}, []int{0, 0, 1}},
		{[]int{0, 0, 0}, []int{0, 0, 0}},
		{make([]int, mostSymbols), make([]int, mostSymbols)},
		{nil, nil},
	} {
		if got := huff.Codes(x.lens); !slices.Equal(got, x.want) {
			t.Errorf("Codes(%v): %v, not %v", x.lens, got, x.want)
		}
	}
	fixed := huff.Codes(deflateLens())
	for symbol, want := range map[int]int{0: 0b00110000, 143: 0b10111111, 144: 0b110010000, 255: 0b111111111, 256: 0, 279: 0b0010111, 280: 0b11000000, 287: 0b11000111} {
		if len(fixed) != 288 || fixed[symbol] != want {
			t.Fatalf("the code of %d is not %b", symbol, want)
		}
	}
}

func TestCodesAreThoseThatPutLays(t *testing.T) { // P4.4
	for _, lens := range append(manyLens(), []int{0, 1}, []int{0, 0}, nil) {
		c := mustMake(t, lens, true)
		codes := huff.Codes(lens)
		if len(codes) != len(lens) {
			t.Fatalf("Codes(%v): %v", lens, codes)
		}
		for symbol, code := range codes {
			want := ""
			if lens[symbol] > 0 {
				want = fmt.Sprintf("%0*b", lens[symbol], code)
			} else if code != 0 {
				t.Errorf("%v: %d has no code, and not 0", lens, symbol)
			}
			if got, _ := codeOf(c, symbol); got != want {
				t.Errorf("%v: Put of %d: %q, not %q", lens, symbol, got, want)
			}
		}
	}
}

func TestCodesOfWrongLengths(t *testing.T) { // P4.4
	for _, lens := range [][]int{{1, 1, 1}, {2, 2}, {0, 2}, {2}, {1, 2}, {-1, 1}, {16, 1}, {1, 1, -1}, {1, 1, 16}, {1, 1, math.MinInt}, make([]int, mostSymbols+1), append([]int{1, 1}, make([]int, mostSymbols-1)...)} {
		if got := huff.Codes(lens); len(got) != 0 {
			t.Errorf("Codes(%v): %v", lens, got)
		}
	}
}

func TestCodesAreTheCallersOwn(t *testing.T) { // P4.4, R6
	lens := []int{2, 1, 3, 3}
	got := huff.Codes(lens)
	clear(got)
	if !slices.Equal(lens, []int{2, 1, 3, 3}) {
		t.Error("to write into the codes changes the lengths:", lens)
	}
	if again := huff.Codes(lens); !slices.Equal(again, []int{2, 0, 6, 7}) {
		t.Error("to write into the codes changes later ones:", again)
	}
	got = huff.Codes(lens)
	clear(lens)
	if !slices.Equal(got, []int{2, 0, 6, 7}) {
		t.Error("to write into the lengths changes the codes:", got)
	}
}

func TestSymbolsAreReadAsTheyWereLaid(t *testing.T) { // P4.5
	rnd := rand.New(rand.NewSource(45))
	for _, lens := range append(manyLens(), []int{1}, []int{0, 0, 1}) {
		c := mustMake(t, lens, true)
		w := bits.NewWriter()
		var symbols []int
		for len(symbols) < 300 {
			symbol := rnd.Intn(len(lens))
			if c.Put(w, symbol) != (lens[symbol] > 0) {
				t.Fatalf("%v: Put of %d", lens, symbol)
			}
			if lens[symbol] > 0 {
				symbols = append(symbols, symbol)
			}
		}
		r := bits.NewReader(w.Data())
		for i, want := range symbols {
			if got, e := c.Next(r); got != want || e != api.OK {
				t.Fatalf("%v: symbol %d: %d, %d, not %d", lens, i, got, e, want)
			}
		}
		if r.Left() != len(w.Data())*8-w.Len() {
			t.Errorf("%v: %d bits left", lens, r.Left())
		}
	}
}

func TestNoCodeIsTheBeginningOfAnother(t *testing.T) { // P4.5
	for _, lens := range manyLens() {
		c := mustMake(t, lens, false)
		var codes []string
		for symbol, long := range lens {
			if code, ok := codeOf(c, symbol); ok {
				codes = append(codes, code)
				if len(code) != long {
					t.Fatalf("%v: the code of %d has %d bits", lens, symbol, len(code))
				}
			}
		}
		for i, a := range codes {
			for j, b := range codes {
				if i != j && strings.HasPrefix(b, a) {
					t.Fatalf("%v: %q begins with %q", lens, b, a)
				}
			}
		}
	}
}

func TestEachRowOfBitsBeginsWithACode(t *testing.T) { // P4.5
	all := append(manyLens()[:12], manyLens()[70:74]...)
	for _, lens := range all {
		c := mustMake(t, lens, false)
		for v := range 1 << api.MaxBits {
			w := bits.NewWriter()
			w.Bits(v, api.MaxBits)
			r := bits.NewReader(w.Data())
			symbol, e := c.Next(r)
			if e != api.OK || symbol < 0 || symbol >= len(lens) || 16-r.Left() != lens[symbol] {
				t.Fatalf("%v: Next of %015b: %d, %d", lens, v, symbol, e)
			}
			if code, _ := codeOf(c, symbol); !strings.HasPrefix(laid(w), code) {
				t.Fatalf("%v: %q is read where %q stands", lens, code, laid(w))
			}
		}
	}
}
