package limit_test

import (
	"cmp"
	"container/heap"
	"math"
	"math/rand"
	"slices"
	"sort"
	"testing"

	"wainload/api"
	"wainload/limit"
)

const (
	mostSymbols = 320
	mostOften   = 1 << 30
)

// occurring is how many symbols occur.
func occurring(often []int) int {
	n := 0
	for _, x := range often {
		if x != 0 {
			n++
		}
	}
	return n
}

// refused is the first half of P5.1 word by word.
func refused(often []int, most int) bool {
	if len(often) > 320 || most < 1 || most > 15 {
		return true
	}
	for _, x := range often {
		if x < 0 || x > 1073741824 {
			return true
		}
	}
	return float64(occurring(often)) > math.Pow(2, float64(most))
}

// weight is the sum of 2^(most - length) over the symbols that occur.
func weight(often, lens []int, most int) int {
	sum := 0
	for i, x := range often {
		if x != 0 {
			sum += int(math.Pow(2, float64(most-lens[i])))
		}
	}
	return sum
}

// cost is P5.2 word by word.
func cost(often, lens []int) int {
	sum := 0
	for i, x := range often {
		if i < len(lens) {
			sum += x * lens[i]
		}
	}
	return sum
}

// search goes through all lengths from 1 to most of the symbols that occur, and tells
// the least costs: of those whose weight is 2^most, and of those whose weight is at most that.
func search(often []int, most int) (full, any int) {
	full, any = math.MaxInt, math.MaxInt
	lens := make([]int, len(often))
	var from func(symbol, spent, weight int)
	from = func(symbol, spent, weight int) {
		if weight > 1<<most {
			return
		}
		if symbol == len(often) {
			any = min(any, spent)
			if weight == 1<<most {
				full = min(full, spent)
			}
			return
		}
		if often[symbol] == 0 {
			from(symbol+1, spent, weight)
			return
		}
		for lens[symbol] = 1; lens[symbol] <= most; lens[symbol]++ {
			from(symbol+1, spent+often[symbol]*lens[symbol], weight+1<<(most-lens[symbol]))
		}
	}
	from(0, 0, 0)
	return full, any
}

// least is the cost of the best lengths from 1 to most whose weight is at most 2^most,
// found bit by bit from the beginning of the codes: of the open places some end in a
// symbol, the most frequent that is left, and each other one opens two.
func least(often []int, most int) int {
	var falling []int
	for _, x := range often {
		if x > 0 {
			falling = append(falling, x)
		}
	}
	sort.Sort(sort.Reverse(sort.IntSlice(falling)))
	left := make([]int, len(falling)+1) // how often those are that come at a place or behind it
	for i := len(falling) - 1; i >= 0; i-- {
		left[i] = left[i+1] + falling[i]
	}
	type state struct{ long, given, open int }
	known := map[state]int{}
	var from func(s state) int
	from = func(s state) int {
		rest := len(falling) - s.given
		s.open = min(s.open, rest)
		switch {
		case rest == 0:
			return 0
		case s.long == most:
			return math.MaxInt
		}
		if c, ok := known[s]; ok {
			return c
		}
		best := math.MaxInt
		open := min(2*s.open, rest)
		for k := 0; k <= open; k++ {
			c := from(state{s.long + 1, s.given + k, open - k})
			if c < math.MaxInt {
				best = min(best, c+left[s.given])
			}
		}
		known[s] = best
		return best
	}
	return from(state{0, 0, 1})
}

type heapOfInts struct{ sort.IntSlice }

func (h *heapOfInts) Push(x any) { h.IntSlice = append(h.IntSlice, x.(int)) }
func (h *heapOfInts) Pop() any {
	last := h.IntSlice[h.Len()-1]
	h.IntSlice = h.IntSlice[:h.Len()-1]
	return last
}

// unbound is the cost of the best lengths, however long, of two symbols or more: the two rarest are joined, again and again.
func unbound(often []int) int {
	h := &heapOfInts{}
	for _, x := range often {
		if x > 0 {
			heap.Push(h, x)
		}
	}
	sum := 0
	for h.Len() > 1 {
		both := heap.Pop(h).(int) + heap.Pop(h).(int)
		sum += both
		heap.Push(h, both)
	}
	return sum
}

// lengths are those of limit, after all was looked at that P5.1 and P5.3 say of any
// lengths but how little they cost.
func lengths(t *testing.T, often []int, most int) []int {
	t.Helper()
	was := slices.Clone(often)
	lens, ok := limit.Lengths(often, most)
	if !slices.Equal(often, was) {
		t.Fatalf("%v, %d: the argument is now %v", was, most, often)
	}
	if refused(often, most) {
		if ok || lens != nil {
			t.Fatalf("%v, %d: %v, %v, not refused", often, most, lens, ok)
		}
		return nil
	}
	if !ok || len(lens) != len(often) {
		t.Fatalf("%v, %d: %v, %v", often, most, lens, ok)
	}
	n := occurring(often)
	for i, long := range lens {
		switch {
		case often[i] == 0 && long != 0, often[i] > 0 && n == 1 && long != 1,
			often[i] > 0 && (long < 1 || long > most):
			t.Fatalf("%v, %d: %v: the length of %d", often, most, lens, i)
		}
	}
	if n > 1 && weight(often, lens, most) != 1<<most {
		t.Fatalf("%v, %d: %v: the sum is %d", often, most, lens, weight(often, lens, most))
	}
	for i, x := range often {
		for j, y := range often {
			if x > y && y > 0 && lens[i] > lens[j] {
				t.Fatalf("%v, %d: %v: %d is more often than %d and has a longer code", often, most, lens, i, j)
			}
		}
	}
	return lens
}

// manyOften are all sorts: few symbols and many, even ones and steep ones, with gaps and without.
func manyOften(seed int64, symbols int) [][]int {
	rnd := rand.New(rand.NewSource(seed))
	kinds := []func(i int) int{
		func(int) int { return 1 },
		func(int) int { return 1 + rnd.Intn(3) },
		func(int) int { return rnd.Intn(3) },
		func(int) int { return rnd.Intn(mostOften + 1) },
		func(int) int { return 1 << rnd.Intn(31) },
		func(i int) int { return 1 << min(i, 30) },
		func(i int) int { return mostOften >> min(i, 30) },
		func(int) int { return 1000 / (1 + rnd.Intn(1000)) },
		func(int) int { return mostOften },
	}
	var all [][]int
	for _, kind := range kinds {
		for range 4 {
			often := make([]int, 1+rnd.Intn(symbols))
			for i := range often {
				often[i] = kind(i)
			}
			all = append(all, often)
		}
	}
	return all
}

func repeated(n, times int) []int {
	return slices.Repeat([]int{times}, n)
}

// doubling are symbols each twice as often as the one ahead.
func doubling(n int) []int {
	often := make([]int, n)
	for i := range often {
		often[i] = 1 << i
	}
	return often
}

func TestExamplesOfTheChapter(t *testing.T) { // P5.1, P5.2
	for _, x := range []struct {
		often []int
		most  int
		lens  []int
		ok    bool
	}{
		{[]int{5, 1, 1, 2}, 15, []int{1, 3, 3, 2}, true},
		{[]int{5, 1, 1, 2}, 2, []int{2, 2, 2, 2}, true},
		{[]int{0, 7}, 3, []int{0, 1}, true},
		{[]int{1, 1, 1}, 1, nil, false},
	} {
		lens, ok := limit.Lengths(x.often, x.most)
		if !slices.Equal(lens, x.lens) || ok != x.ok {
			t.Errorf("%v, %d: %v, %v", x.often, x.most, lens, ok)
		}
	}
	if c := limit.Cost([]int{5, 1, 1, 2}, []int{1, 3, 3, 2}); c != 15 {
		t.Errorf("Cost: %d", c)
	}
}

func TestWhatIsRefused(t *testing.T) { // P5.1
	with := func(n, at, times int) []int {
		often := repeated(n, 1)
		often[at] = times
		return often
	}
	for i, x := range []struct {
		often []int
		most  int
	}{
		{make([]int, mostSymbols+1), 15}, {repeated(mostSymbols+1, 1), 15}, {make([]int, 5000), 15},
		{with(4, 0, -1), 15}, {with(4, 3, -1), 15}, {[]int{math.MinInt}, 15}, {[]int{-1, 0}, 15},
		{with(4, 0, mostOften+1), 15}, {with(4, 3, mostOften+1), 15}, {[]int{math.MaxInt}, 15},
		{[]int{1, 1}, 0}, {[]int{1, 1}, -1}, {[]int{1, 1}, math.MinInt}, {[]int{1, 1}, 16},
		{[]int{1, 1}, 17}, {[]int{1, 1}, 64}, {[]int{1, 1}, math.MaxInt},
		{nil, 0}, {nil, 16}, {[]int{0}, 0}, {[]int{1}, 0}, {[]int{1}, 16},
		{repeated(3, 1), 1}, {repeated(5, 1), 2}, {repeated(257, 1), 8}, {repeated(mostSymbols, 1), 8},
	} {
		if lens, ok := limit.Lengths(x.often, x.most); ok || lens != nil {
			t.Errorf("%d: %v, %v", i, lens, ok)
		}
	}
}

func TestWhatIsNotRefused(t *testing.T) { // P5.1
	for i, x := range []struct {
		often []int
		most  int
	}{
		{nil, 1}, {nil, 15}, {make([]int, mostSymbols), 1}, {make([]int, mostSymbols), 15},
		{repeated(mostSymbols, 1), 9}, {repeated(mostSymbols, mostOften), 15}, {[]int{mostOften}, 1},
		{[]int{0, 0, 1, 0, 1}, 1}, {repeated(2, 1), 1}, {repeated(4, 1), 2}, {repeated(256, 1), 8},
	} {
		if _, ok := limit.Lengths(x.often, x.most); !ok {
			t.Errorf("%d: false", i)
		}
		lengths(t, x.often, x.most)
	}
}

func TestEachMostAroundItsCountOfSymbols(t *testing.T) { // P5.1
	for most := -2; most <= api.MaxBits+2; most++ {
		for n := range mostSymbols + 3 {
			lengths(t, repeated(n, 3), most)
		}
	}
}

func TestFewSymbols(t *testing.T) { // P5.1
	for most := 1; most <= api.MaxBits; most++ {
		for n := range 6 {
			if lens := lengths(t, make([]int, n), most); !slices.Equal(lens, make([]int, n)) {
				t.Errorf("none of %d, %d: %v", n, most, lens)
			}
			for at := range n {
				often, want := make([]int, n), make([]int, n)
				often[at], want[at] = 9, 1
				if lens := lengths(t, often, most); !slices.Equal(lens, want) {
					t.Errorf("%v, %d: %v", often, most, lens)
				}
				for second := range at {
					often, want := slices.Clone(often), slices.Clone(want)
					often[second], want[second] = mostOften, 1
					if lens := lengths(t, often, most); !slices.Equal(lens, want) {
						t.Errorf("%v, %d: %v", often, most, lens)
					}
				}
			}
		}
	}
}

func TestAsManySymbolsAsThereAreCodes(t *testing.T) { // P5.1
	rnd := rand.New(rand.NewSource(51))
	for most := 1; most <= 8; most++ {
		often := make([]int, 1<<most)
		for i := range often {
			often[i] = 1 + rnd.Intn(mostOften)
		}
		if lens := lengths(t, often, most); !slices.Equal(lens, repeated(len(often), most)) {
			t.Errorf("%v, %d: %v", often, most, lens)
		}
		if lens, ok := limit.Lengths(append(often, 1), most); ok || lens != nil {
			t.Errorf("one more than 2^%d: %v", most, lens)
		}
		if lens := lengths(t, append(often, 0), most); !slices.Equal(lens, append(repeated(len(often), most), 0)) {
			t.Errorf("one that does not occur and 2^%d: %v", most, lens)
		}
	}
}

func TestSymbolsAsOftenAsEachOther(t *testing.T) { // P5.1
	for n := 2; n <= mostSymbols; n++ {
		short := 0
		for 2<<short <= n {
			short++
		}
		longer := 2 * (n - 1<<short) // so many have a bit more
		for most := short; most <= api.MaxBits; most++ {
			if n > 1<<most {
				continue
			}
			often := repeated(n, 1+n%7)
			want := often[0] * (n*short + longer)
			if c := limit.Cost(often, lengths(t, often, most)); c != want {
				t.Errorf("%d symbols, %d: %d, not %d", n, most, c, want)
			}
		}
	}
}

func TestSymbolsTwiceAsOftenAsTheOneAhead(t *testing.T) { // P5.1
	for n := 2; n <= 31; n++ {
		for most := 1; most <= api.MaxBits; most++ {
			often := doubling(n)
			lens := lengths(t, often, most)
			if lens == nil {
				continue
			}
			if c, want := limit.Cost(often, lens), least(often, most); c != want {
				t.Errorf("%d symbols, %d: %v costs %d, not %d", n, most, lens, c, want)
			}
			if n-1 <= most {
				for i, long := range lens {
					if long != min(n-i, n-1) {
						t.Errorf("%d symbols, %d: %v", n, most, lens)
						break
					}
				}
			}
		}
	}
}

// eachSmall goes through all lists of a length with numbers below a bound.
func eachSmall(n, bound int, f func(often []int)) {
	often := make([]int, n)
	for {
		f(often)
		i := 0
		for i < n && often[i] == bound-1 {
			often[i] = 0
			i++
		}
		if i == n {
			return
		}
		often[i]++
	}
}

func TestNoOtherLengthsCostLess(t *testing.T) { // P5.1, P5.3
	hold := func(often []int, most int) {
		lens := lengths(t, often, most)
		if lens == nil || occurring(often) < 2 {
			return
		}
		full, any := search(often, most)
		if c := cost(often, lens); c != full || c > any {
			t.Fatalf("%v, %d: %v costs %d; full ones %d, any %d", often, most, lens, c, full, any)
		}
	}
	for most := 1; most <= 4; most++ {
		eachSmall(4, 5, func(often []int) { hold(often, most) })
	}
	eachSmall(5, 4, func(often []int) { hold(often, 3) })
	rnd := rand.New(rand.NewSource(52))
	for range 150 {
		often := make([]int, 2+rnd.Intn(6))
		for i := range often {
			often[i] = rnd.Intn(1 << rnd.Intn(12))
		}
		hold(often, 1+rnd.Intn(5))
	}
}

func TestTheSearchesAgree(t *testing.T) {
	for most := 1; most <= 4; most++ {
		eachSmall(4, 4, func(often []int) {
			if occurring(often) > 1<<most {
				return
			}
			if _, any := search(often, most); any != least(often, most) {
				t.Fatalf("%v, %d: %d and %d", often, most, any, least(often, most))
			}
		})
	}
}

func TestNoShortCodesCostLess(t *testing.T) { // P5.1, P5.3
	for seed := range int64(3) {
		for _, often := range manyOften(seed, 40) {
			for most := 1; most <= api.MaxBits; most++ {
				lens := lengths(t, often, most)
				if lens == nil {
					continue
				}
				if c, want := cost(often, lens), least(often, most); c != want {
					t.Fatalf("%v, %d: %v costs %d, not %d", often, most, lens, c, want)
				}
			}
		}
	}
}

func TestManySymbolsCostNoMoreThanCodesOfAnyLength(t *testing.T) { // P5.1
	rnd := rand.New(rand.NewSource(53))
	for range 60 {
		often := make([]int, 2+rnd.Intn(mostSymbols-1))
		for i := range often {
			often[i] = 200 + rnd.Intn(1000) // too even for a best code of more than 15 bits
		}
		if c, want := cost(often, lengths(t, often, api.MaxBits)), unbound(often); c != want {
			t.Fatalf("%v: %d, not %d", often, c, want)
		}
	}
}

func TestALesserMostCostsNoLess(t *testing.T) { // P5.1, P5.3
	for _, often := range manyOften(54, mostSymbols) {
		below := math.MaxInt
		for most := 1; most <= api.MaxBits; most++ {
			lens := lengths(t, often, most)
			if lens == nil {
				continue
			}
			c := cost(often, lens)
			if c > below || occurring(often) > 1 && c < unbound(often) {
				t.Fatalf("%v, %d: %d, and %d a bit below", often, most, c, below)
			}
			below = c
		}
	}
}

func TestOtherLengthsCostNoLess(t *testing.T) { // P5.3
	rnd := rand.New(rand.NewSource(55))
	for _, often := range manyOften(55, 60) {
		for range 30 {
			most := 1 + rnd.Intn(api.MaxBits)
			other := make([]int, len(often))
			for i := range often {
				if often[i] > 0 {
					other[i] = 1 + rnd.Intn(most)
				}
			}
			if weight(often, other, most) > 1<<most {
				continue
			}
			if lens := lengths(t, often, most); cost(often, other) < cost(often, lens) {
				t.Fatalf("%v, %d: %v is cheaper than %v", often, most, other, lens)
			}
		}
	}
}

func TestTheOrderOfSymbolsIsNoMatter(t *testing.T) { // P5.1, P5.3
	rnd := rand.New(rand.NewSource(56))
	for _, often := range manyOften(56, mostSymbols) {
		most := 9 + rnd.Intn(7)
		c := cost(often, lengths(t, often, most))
		for range 3 {
			mixed := slices.Clone(often)
			rnd.Shuffle(len(mixed), func(i, j int) { mixed[i], mixed[j] = mixed[j], mixed[i] })
			if d := cost(mixed, lengths(t, mixed, most)); d != c {
				t.Fatalf("%v, %d: %d, and mixed %d", often, most, c, d)
			}
		}
		slices.SortFunc(often, func(a, b int) int { return cmp.Compare(b, a) })
		if d := cost(often, lengths(t, often, most)); d != c {
			t.Fatalf("%v, %d: %d, not %d", often, most, d, c)
		}
	}
}

func TestCost(t *testing.T) { // P5.2
	for _, x := range []struct {
		often, lens []int
		want        int
	}{
		{nil, nil, 0}, {nil, []int{1, 2}, 0}, {[]int{1, 2}, nil, 0}, {[]int{}, []int{}, 0},
		{[]int{7}, []int{3}, 21}, {[]int{1, 2, 3}, []int{4, 5}, 14}, {[]int{4, 5}, []int{1, 2, 3}, 14},
		{[]int{1, 2, 3}, []int{4, 5, 6}, 32}, {[]int{0, 2}, []int{9, 0}, 0},
		{[]int{-3, 2}, []int{5, -7}, -29}, {[]int{-3}, []int{-5}, 15},
		{repeated(mostSymbols, mostOften), repeated(mostSymbols, 15), 15 * mostSymbols * mostOften},
		{repeated(1000, 2), repeated(999, 3), 5994},
		{[]int{100, 3}, []int{20, 40}, 2120},
	} {
		if c := limit.Cost(x.often, x.lens); c != x.want {
			t.Errorf("%v, %v: %d, not %d", x.often, x.lens, c, x.want)
		}
	}
	rnd := rand.New(rand.NewSource(58))
	for range 300 {
		often, lens := make([]int, rnd.Intn(9)), make([]int, rnd.Intn(9))
		for i := range often {
			often[i] = rnd.Intn(2001) - 1000
		}
		for i := range lens {
			lens[i] = rnd.Intn(41) - 20
		}
		wasOften, wasLens := slices.Clone(often), slices.Clone(lens)
		if c := limit.Cost(often, lens); c != cost(often, lens) {
			t.Errorf("%v, %v: %d", often, lens, c)
		}
		if !slices.Equal(often, wasOften) || !slices.Equal(lens, wasLens) {
			t.Errorf("%v, %v: changed", wasOften, wasLens)
		}
	}
}

func TestAnswersAreTheCallersOwn(t *testing.T) { // R5, R6, R7
	for _, often := range manyOften(59, 300) {
		room := append(slices.Clone(often), -1, -2) // behind the argument nothing is touched either
		first, _ := limit.Lengths(room[:len(often)], 9)
		if !slices.Equal(room, append(slices.Clone(often), -1, -2)) {
			t.Fatalf("%v: the argument's room is changed", often)
		}
		want := slices.Clone(first)
		for i := range first {
			first[i] = 99
		}
		if !slices.Equal(room[:len(often)], often) {
			t.Fatalf("%v: the answer is the argument", often)
		}
		second, _ := limit.Lengths(often, 9)
		if !slices.Equal(second, want) {
			t.Fatalf("%v: %v, then %v", often, want, second)
		}
	}
}
