package deflate_test

import (
	"bytes"
	"fmt"
	"math"
	"math/rand"
	"slices"
	"testing"

	"wainload/api"
	"wainload/deflate"
	"wainload/match"
)

var levels = []int{1, 2, 3, 4, math.MaxInt}

var lowLevels = []int{math.MinInt, -1, 0}

// sizes are those that stored blocks are cut at, and next to them.
var sizes = []int{0, 1, 2, 65534, 65535, 65536, 131069, 131070, 131071}

func TestExamplesOfTheChapter(t *testing.T) { // P8.1, P8.2, P8.4
	if s := deflate.Stored([]byte("a")); string(s) != "\x01\x01\x00\xfe\xffa" {
		t.Errorf("Stored of a: %x", s)
	}
	if s, ok := deflate.Fixed(lits('a')); !ok || string(s) != "\x4b\x04\x00" {
		t.Errorf("Fixed of a: %x, %v", s, ok)
	}
	for _, none := range [][]api.Token{nil, {}} {
		if s, ok := deflate.Fixed(none); !ok || string(s) != "\x03\x00" {
			t.Errorf("Fixed of none: %x, %v", s, ok)
		}
	}
	if s := deflate.Deflate(nil, 1); len(s) != 2 {
		t.Errorf("Deflate of nothing: %x", s)
	}
}

func TestStoredBlocksAreOf65535BytesButTheLastOne(t *testing.T) { // P8.1, P8.5
	for _, n := range append(slices.Clone(sizes), 3, 255, 256, 257, 1000, 3*65535-1, 3*65535, 3*65535+1) {
		for what, data := range map[string][]byte{"noise": noise(int64(n), n), "like bytes": make([]byte, n)} {
			s := deflate.Stored(data)
			if !bytes.Equal(s, slowStored(data)) {
				t.Errorf("%d bytes, %s: a stream of %d bytes, beginning with %.10x", n, what, len(s), s)
			}
			reads(t, fmt.Sprint(n, " bytes stored, ", what), s, data)
		}
	}
	if s := deflate.Stored(nil); string(s) != "\x01\x00\x00\xff\xff" {
		t.Errorf("Stored of nothing: %x", s)
	}
}

func TestTheModelsFixedBlockIsTheChapters(t *testing.T) { // of the tests themselves
	for row, l := range map[string][]api.Token{
		"4b0400":     lits('a'),
		"0300":       nil,
		"4b4c840100": {lit('a'), lit('a'), run(8, 1)},
	} {
		if got := fmt.Sprintf("%x", slowFixed(l)); got != row {
			t.Errorf("%v: %s, not %s", l, got, row)
		}
	}
}

// both holds Fixed and Dynamic against their promises.
func both(t *testing.T, what string, l []api.Token) head {
	t.Helper()
	fixedOf(t, what, l)
	return dynamicOf(t, what, l)
}

func TestNoTokens(t *testing.T) { // P8.2, P8.3, P8.5
	both(t, "none", nil)
	both(t, "none at all", []api.Token{})
}

func TestASingleByteAlone(t *testing.T) { // P8.2, P8.3, P8.5
	for b := range 256 {
		both(t, fmt.Sprint("byte ", b), lits(byte(b)))
		both(t, fmt.Sprint("byte again ", b), slices.Repeat(lits(byte(b)), 9))
	}
}

func TestTwoBytes(t *testing.T) { // P8.2, P8.3, P8.5
	// The gap between the symbols that have a code is each one that may be: lengths 0 come in rows of 1 to 254.
	for b := 1; b < 256; b++ {
		both(t, fmt.Sprint("bytes 0 and ", b), lits(0, byte(b)))
	}
	for _, a := range []byte{0, 143, 144, 255} {
		for _, b := range []byte{0, 143, 144, 255} {
			both(t, fmt.Sprint(a, b), lits(a, b, b))
		}
	}
}

func TestManyBytesAsOftenAsEachOther(t *testing.T) { // P8.2, P8.3, P8.5
	// Lengths that are the same come in rows of any size.
	for n := 1; n <= 256; n++ {
		var l []api.Token
		for b := range n {
			l = append(l, lit(byte(b)))
		}
		both(t, fmt.Sprint("bytes below ", n), l)
		both(t, fmt.Sprint("bytes below ", n, " twice"), slices.Concat(l, l))
	}
}

func TestRunsOfEachLength(t *testing.T) { // P8.2, P8.3, P8.5
	for long := 3; long <= api.LongRun; long++ {
		both(t, fmt.Sprint("run of ", long), []api.Token{lit('x'), run(long, 1)})
	}
	var all, edges []api.Token
	for long := 3; long <= api.LongRun; long++ {
		all = append(all, run(long, 2))
	}
	for _, s := range longs {
		edges = append(edges, run(s.least, 1), run(min(s.most(), 257), 1))
	}
	both(t, "all lengths", append(lits('x', 'y'), all...))
	both(t, "where symbols begin and end", append(lits('x'), append(edges, run(api.LongRun, 1))...))
}

func TestTheSymbolOfTheLongestRun(t *testing.T) { // P8.2, P8.3
	// 258 could be written as 284 with 31 left; 257 is 284 with 30 left.
	for _, long := range []int{257, api.LongRun} {
		h := dynamicOf(t, "long", []api.Token{lit('x'), run(long, 1), run(long, 1)})
		has284, has285 := h.symbols[284] > 0, len(h.symbols) > 285 && h.symbols[285] > 0
		if has284 != (long == 257) || has285 != (long == 258) {
			t.Errorf("run of %d: %v %v", long, has284, has285)
		}
	}
}

func TestRunsAtEachDistance(t *testing.T) { // P8.2, P8.3, P8.5
	for _, s := range fars {
		for _, back := range []int{s.least, s.most()} {
			both(t, fmt.Sprint("run ", back, " back"), append(telling(back), run(3, back), run(258, back)))
		}
	}
	l := telling(api.Window)
	for back := 1; back <= api.Window; back++ {
		l = append(l, run(3+back%256, back))
	}
	both(t, "each distance", l)
	edges := telling(api.Window)
	for _, s := range fars {
		edges = append(edges, run(3, s.least), run(4, s.most()))
	}
	both(t, "where symbols begin and end", edges)
}

func TestTokensThatAreNotRight(t *testing.T) { // P8.2, P8.3
	far := telling(api.Window + 10)
	for i, l := range [][]api.Token{
		{run(3, 1)},
		{lit('a'), run(3, 2)},
		{lit('a'), run(2, 1)},
		{lit('a'), run(1, 1)},
		{lit('a'), run(-3, 1)},
		{lit('a'), run(259, 1)},
		{lit('a'), run(3, 0)},
		{lit('a'), run(3, -1)},
		{lit('a'), run(0, 1)},
		{lit('a'), {Byte: 1, Long: 3, Back: 1}},
		{lit('a'), run(math.MaxInt, 1)},
		{lit('a'), run(3, math.MaxInt)},
		{lit('a'), run(math.MinInt, math.MinInt)},
		append(slices.Clone(far), run(3, api.Window+1)),
		append(telling(100), run(3, 101)),
		append(telling(api.Window-1), run(3, api.Window)),
		{lit('a'), run(3, 1), lit('b'), run(3, 6)},
	} {
		if s, ok := deflate.Fixed(l); ok || len(s) != 0 {
			t.Errorf("%d: Fixed is %x, %v", i, s, ok)
		}
		if s, ok := deflate.Dynamic(l); ok || len(s) != 0 {
			t.Errorf("%d: Dynamic is %x, %v", i, s, ok)
		}
	}
}

func TestNoDistanceOneAndTwo(t *testing.T) { // P8.3, P8.5
	both(t, "no run", lits([]byte("no run at all")...))
	for symbol, s := range fars {
		ahead := lits(slices.Repeat([]byte("ab"), api.Window/2)...)
		for _, times := range []int{1, 2, 40} {
			one := append(slices.Clone(ahead), slices.Repeat([]api.Token{run(5, s.least)}, times)...)
			both(t, fmt.Sprint("one distance ", symbol, " ", times, " times"), one)
		}
		two := append(slices.Clone(ahead), run(5, s.least), run(6, 9), run(7, 24577), run(5, s.most()))
		both(t, fmt.Sprint("distances with ", symbol), two)
	}
	both(t, "two distances", append(telling(5), run(3, 1), run(3, 5)))
}

// times are bytes, each so often.
func times(often ...int) []api.Token {
	var l []api.Token
	for b, n := range often {
		l = append(l, slices.Repeat(lits(byte(b)), n)...)
	}
	return l
}

// fibonacci are counts by which a code has the most bits for the fewest symbols.
func fibonacci(n int) []int {
	l := []int{1, 1}
	for len(l) < n {
		l = append(l, l[len(l)-1]+l[len(l)-2])
	}
	return l[:n]
}

func TestSymbolsSoUnlikeThatABestCodeWouldBeTooLong(t *testing.T) { // P8.3, P8.5
	// The end is a symbol that is there once.
	var doubling, crowd []int
	for len(doubling) < 17 {
		doubling = append(doubling, 1<<len(doubling))
	}
	for _, n := range fibonacci(22)[8:] {
		crowd = append(crowd, n, 1, 0)
	}
	for what, often := range map[string][]int{"fibonacci": fibonacci(20)[1:], "doubling": doubling, "crowd": crowd} {
		l := times(often...)
		symbols, _ := counts(l)
		if fewest(symbols, api.MaxBits) <= unbound(symbols) {
			t.Fatalf("%s: the best code is not too long", what)
		}
		both(t, what, l)
	}
}

func TestDistancesSoUnlikeThatABestCodeWouldBeTooLong(t *testing.T) { // P8.3, P8.5
	l := lits(noise(1, api.Window)...)
	for i, n := range fibonacci(21) {
		l = append(l, slices.Repeat([]api.Token{run(3, fars[29-i].most())}, n)...)
	}
	if _, backs := counts(l); fewest(backs, api.MaxBits) <= unbound(backs) {
		t.Fatal("the best code is not too long")
	}
	both(t, "distances", l)
}

func TestTheModelsFewestBits(t *testing.T) { // of the tests themselves
	for i, c := range []struct {
		often      []int
		most, bits int
	}{
		{[]int{5, 1, 1, 2}, 15, 15},
		{[]int{5, 1, 0, 1, 2}, 2, 18},
		{[]int{1, 1}, 15, 2},
		{[]int{1, 2, 4, 8, 16}, 4, 1*4 + 2*4 + 4*3 + 8*2 + 16},
		{[]int{1, 2, 4, 8, 16}, 3, 1*3 + 2*3 + 4*3 + 8*3 + 16},
	} {
		if got := fewest(c.often, c.most); got != c.bits {
			t.Errorf("%d: %d, not %d", i, got, c.bits)
		}
	}
	r := rand.New(rand.NewSource(5))
	for range 200 {
		often := make([]int, 2+r.Intn(14)) // 15 symbols never need more than 14 bits
		for i := range often {
			often[i] = 1 + r.Intn(1<<r.Intn(20))
		}
		if got, want := fewest(often, api.MaxBits), unbound(often); got != want {
			t.Fatalf("%v: %d, not %d", often, got, want)
		}
	}
}

func TestCountsThatLimitDoesNotTake(t *testing.T) { // P8.3
	for _, often := range [][]int{
		{1<<30 + 1, 1},
		{7, 1<<30 + 1, 0, 9},
		{1<<30 + 5, 1 << 29, 1 << 28, 3, 0, 2},
		append(fibonacci(30), 1<<31-1-1<<22),
		append(fibonacci(42), 1<<30+1),
		append(fibonacci(42), 1<<30-1-701408732, 1<<30+1), // the others are 2^30 - 1 together
		{0, 1<<31 - 1, 1},
		{1 << 31},
	} {
		before := slices.Clone(often)
		lens := deflate.Best(often)
		if len(lens) != len(often) || !slices.Equal(often, before) {
			t.Fatalf("%v: %v", often, lens)
		}
		few(t, fmt.Sprint(often), often, lens)
	}
}

// lengthsByChance are full ones of so many symbols, the last one of the longest, up to most bits.
func lengthsByChance(r *rand.Rand, many, most, slant int) []int {
	lens := []int{0}
	for len(lens) < many {
		i := r.Intn(len(lens))
		for range slant { // the longest of several make way
			if j := r.Intn(len(lens)); lens[j] > lens[i] && lens[j] < most {
				i = j
			}
		}
		if lens[i] < most {
			lens[i]++
			lens = append(lens, lens[i])
		}
	}
	r.Shuffle(len(lens), func(i, j int) { lens[i], lens[j] = lens[j], lens[i] })
	longest := slices.Index(lens, slices.Max(lens))
	lens[longest], lens[many-1] = lens[many-1], lens[longest]
	return lens
}

func TestLengthsOfAllKinds(t *testing.T) { // P8.3, P8.5
	// A symbol that is 2^(longest - length) times has that length in the best code, so that lengths can
	// be asked for; the end, which is there once, has the longest. The numbers that lengths are told in
	// have codes of at most 7 bits, so some of these heads must be such that a best code would be longer.
	r := rand.New(rand.NewSource(8))
	crowded := 0
	for i := range 120 {
		lens := lengthsByChance(r, 3+r.Intn(240), 9+r.Intn(5), i%5)
		places := r.Perm(256)[:len(lens)-1]
		if i%2 == 0 {
			slices.Sort(places)
		}
		var l []api.Token
		for k, b := range places {
			l = append(l, slices.Repeat(lits(byte(b)), 1<<(slices.Max(lens)-lens[k]))...)
		}
		h := dynamicOf(t, fmt.Sprint("lengths ", i), l)
		often := make([]int, 19)
		for _, n := range h.numbers {
			often[n]++
		}
		if fewest(often, 7) > unbound(often) {
			crowded++
		}
	}
	if crowded == 0 {
		t.Error("no numbers whose best code would be too long")
	}
}

// anyTokens are Right, by chance.
func anyTokens(r *rand.Rand, many int) []api.Token {
	letters, runs, farthest := 1+r.Intn(256), r.Intn(4), 1<<r.Intn(16)
	var l []api.Token
	told := 0
	for range many {
		if told == 0 || r.Intn(4) >= runs {
			l = append(l, lit(byte(r.Intn(letters))))
			told++
			continue
		}
		long := 3 + r.Intn(1<<(1+r.Intn(8)))
		l = append(l, run(min(long, api.LongRun), 1+r.Intn(min(told, farthest))))
		told += min(long, api.LongRun)
	}
	return l
}

func TestTokensByChance(t *testing.T) { // P8.2, P8.3, P8.5
	r := rand.New(rand.NewSource(1))
	for i := range 300 {
		both(t, fmt.Sprint("by chance ", i), anyTokens(r, r.Intn(1<<(1+r.Intn(11)))))
	}
	both(t, "many by chance", anyTokens(r, 70000))
}

func TestTokensThatFindMade(t *testing.T) { // P8.2, P8.3, P8.5
	for what, data := range samples(5000) {
		for _, level := range []int{0, 1, 3} {
			both(t, fmt.Sprint(what, " at ", level), match.Find(data, level))
		}
	}
}

// samples are data of n bytes: of like ones, of such as never come again, and of both.
func samples(n int) map[string][]byte {
	half := n / 2
	return map[string][]byte{
		"like bytes":        bytes.Repeat([]byte{200}, n),
		"two in turn":       bytes.Repeat([]byte("ab"), n)[:n],
		"never again":       unlike[:min(n, len(unlike))],
		"noise":             noise(2, n),
		"text":              text(3, n),
		"like, then noise":  append(make([]byte, half), noise(4, n-half)...),
		"noise, then like":  append(noise(5, half), bytes.Repeat([]byte{7}, n-half)...),
		"noise, then again": append(noise(6, half), noise(6, n-half)...),
	}
}

// deflateOf holds Deflate against P8.4 and P8.5.
func deflateOf(t *testing.T, what string, data []byte, level int) []byte {
	t.Helper()
	what = fmt.Sprint(what, ", ", len(data), " bytes at level ", level)
	s := deflate.Deflate(data, level)
	reads(t, what, s, data)
	stored := deflate.Stored(data)
	if level < 1 {
		if !bytes.Equal(s, stored) {
			t.Fatalf("%s: not Stored", what)
		}
		return s
	}
	l := match.Find(data, level)
	fixed, _ := deflate.Fixed(l)
	dynamic, _ := deflate.Dynamic(l)
	if len(s) > len(stored) || len(s) > len(fixed) || len(s) > len(dynamic) {
		t.Fatalf("%s: %d bytes, but stored %d, fixed %d, dynamic %d", what, len(s), len(stored), len(fixed), len(dynamic))
	}
	if !bytes.Equal(deflate.Deflate(slices.Concat(data, []byte("spare"))[:len(data)], level), s) {
		t.Fatalf("%s: another stream the second time", what)
	}
	return s
}

func TestDeflateOfLittle(t *testing.T) { // P8.4, P8.5
	for _, level := range slices.Concat(lowLevels, levels) {
		deflateOf(t, "nothing", nil, level)
		deflateOf(t, "nothing", []byte{}, level)
		for b := range 256 {
			deflateOf(t, "a byte", []byte{byte(b)}, level)
		}
		for n := range 70 {
			for what, data := range samples(n) {
				deflateOf(t, what, data, level)
			}
		}
	}
}

func TestDeflateOfMore(t *testing.T) { // P8.4, P8.5
	for _, n := range []int{257, 258, 259, 260, 1000, 4097, 20000} {
		for what, data := range samples(n) {
			for _, level := range slices.Concat(lowLevels, levels) {
				deflateOf(t, what, data, level)
			}
		}
	}
}

func TestDeflateOfSizesThatStoredIsCutAt(t *testing.T) { // P8.4, P8.5
	for _, n := range sizes {
		for what, data := range samples(n) {
			for _, level := range []int{0, 1, 2} {
				deflateOf(t, what, data, level)
			}
		}
	}
}

func TestNoiseIsStored(t *testing.T) { // P8.4
	for _, n := range []int{1000, 65535, 65536, 200000} {
		data := noise(11, n)
		for _, level := range levels {
			if s := deflateOf(t, "noise", data, level); !bytes.Equal(s, deflate.Stored(data)) {
				t.Errorf("%d bytes at %d: %d bytes", n, level, len(s))
			}
		}
	}
}

func TestLikeBytesAreMadeSmall(t *testing.T) { // P8.4
	for _, n := range []int{1000, 65536, 1 << 20} {
		for _, level := range levels {
			if s := deflateOf(t, "like", make([]byte, n), level); len(s) > 20+n/900 {
				t.Errorf("%d bytes at %d: %d bytes", n, level, len(s))
			}
		}
	}
}

// letters are bytes by chance out of few.
func letters(seed int64, few string, n int) []byte {
	b := noise(seed, n)
	for i, x := range b {
		b[i] = few[int(x)%len(few)]
	}
	return b
}

func TestSeveralBlocks(t *testing.T) { // P8.4, P8.5
	data := slices.Concat(letters(1, "\x00\x01\x02\x03", 200000), text(2, 100000), letters(3, "ABCDEFGHIJKLMNOP", 150000))
	for _, level := range levels {
		s := deflateOf(t, "of all kinds", data, level)
		dynamic, _ := deflate.Dynamic(match.Find(data, level))
		if s[0]&1 == 1 || len(s) >= len(dynamic) {
			t.Errorf("level %d: a single block of %d bytes, dynamic %d", level, len(s), len(dynamic))
		}
	}
	// Rows that end with the tokens, and next to it.
	for n := 1<<14 - 1; n <= 1<<14+1; n++ {
		for _, many := range []int{1, 2, 3} {
			deflateOf(t, "never again", unlike[:n*many], 1)
			deflateOf(t, "few letters", letters(4, "0123456789", n*many), 1)
		}
	}
}

func TestDataByChance(t *testing.T) { // P8.4, P8.5
	r := rand.New(rand.NewSource(7))
	for range 300 {
		data := tell(anyTokens(r, r.Intn(1<<(1+r.Intn(9)))))
		deflateOf(t, "by chance", data, 1+r.Intn(4))
	}
}

func TestWhatIsGivenStaysAsItWas(t *testing.T) { // R5, R6
	data := slices.Concat(text(1, 70000), noise(1, 3000))
	before := slices.Clone(data)
	l := match.Find(data, 2)
	l = append(l, lits('z')...)[:len(l)] // with room behind it
	tokens := slices.Clone(l[:len(l)+1])
	deflate.Stored(data)
	for _, level := range slices.Concat(lowLevels, levels) {
		deflate.Deflate(data, level)
	}
	deflate.Fixed(l)
	deflate.Dynamic(l)
	if !bytes.Equal(data, before) {
		t.Error("the data is another")
	}
	if !slices.Equal(l[:len(l)+1], tokens) {
		t.Error("the tokens are others")
	}
}

func TestWhatIsToldIsTheCallersOwn(t *testing.T) { // R6, R7
	data := noise(9, 70000)
	l := match.Find(text(9, 5000), 2)
	calls := map[string]func() []byte{
		"Stored":           func() []byte { return deflate.Stored(data) },
		"Stored of none":   func() []byte { return deflate.Stored(nil) },
		"Fixed":            func() []byte { s, _ := deflate.Fixed(l); return s },
		"Dynamic":          func() []byte { s, _ := deflate.Dynamic(l); return s },
		"Deflate":          func() []byte { return deflate.Deflate(data[:9000], 2) },
		"Deflate, stored":  func() []byte { return deflate.Deflate(data, 0) },
		"Deflate of words": func() []byte { return deflate.Deflate(text(9, 5000), 3) },
	}
	for what, call := range calls {
		s := call()
		before, given := slices.Clone(s), slices.Clone(data)
		for i := range s[:cap(s)] {
			s[:cap(s)][i] ^= 0xff
		}
		if !bytes.Equal(call(), before) || !bytes.Equal(data, given) {
			t.Errorf("%s: what is written into the answer is seen elsewhere", what)
		}
	}
}
