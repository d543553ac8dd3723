package match_test

import (
	"bytes"
	"fmt"
	"math"
	"math/rand"
	"slices"
	"strings"
	"testing"

	"wainload/api"
	"wainload/match"
)

// near is how far ahead P7.2 asks for three bytes.
const near = 64

// levels are those that look for runs, and greater ones.
var levels = []int{1, 2, 3, 4, 9, math.MaxInt}

func lit(b byte) api.Token { return api.Token{Byte: b} }

func run(long, back int) api.Token { return api.Token{Long: long, Back: back} }

// lits are bytes, each a token.
func lits(text string) []api.Token {
	var l []api.Token
	for i := range len(text) {
		l = append(l, lit(text[i]))
	}
	return l
}

// telling are tokens that tell n letters x.
func telling(n int) []api.Token {
	var l []api.Token
	for n > 0 {
		long := min(n, api.LongRun)
		if len(l) == 0 || long < 3 {
			l = append(l, lit('x'))
			n--
			continue
		}
		l = append(l, run(long, 1))
		n -= long
	}
	return l
}

// slowTell is P7.1 word by word.
func slowTell(l []api.Token) (string, bool) {
	told := ""
	for _, t := range l {
		if t.Long == 0 && t.Back == 0 {
			told += string([]byte{t.Byte})
			continue
		}
		if t.Long < 3 || t.Long > api.LongRun || t.Back < 1 || t.Back > api.Window || t.Byte != 0 || t.Back > len(told) {
			return "", false
		}
		for range t.Long {
			told += told[len(told)-t.Back:][:1]
		}
	}
	return told, true
}

// hold holds Right and Tell against the words, and looks that nothing changed that was given.
func hold(t *testing.T, l []api.Token) {
	t.Helper()
	was := slices.Clone(l)
	want, ok := slowTell(l)
	if got := match.Right(l); got != ok {
		t.Fatalf("Right(%v): %v", l, got)
	}
	got, is := match.Tell(l)
	if is != ok || string(got) != want || !is && len(got) != 0 {
		t.Fatalf("Tell(%v): %q, %v, not %q, %v", l, got, is, want, ok)
	}
	if !slices.Equal(l, was) {
		t.Fatalf("%v: now %v", was, l)
	}
}

func TestExamplesOfTheChapter(t *testing.T) { // P7.1, P7.2
	if b, ok := match.Tell([]api.Token{lit('a'), lit('b'), run(4, 2)}); string(b) != "ababab" || !ok {
		t.Errorf("Tell: %q, %v", b, ok)
	}
	// The chapter allows other tokens that tell it; bytes alone they are not, for P7.2.
	if l := find(t, []byte("aaaaa"), 1); len(l) == 5 {
		t.Errorf("Find: %v", l)
	}
}

func TestWhatIsRight(t *testing.T) { // P7.1
	for i, x := range []struct {
		l    []api.Token
		told string
	}{
		{nil, ""}, {[]api.Token{}, ""},
		{lits("a"), "a"}, {lits("\x00"), "\x00"}, {[]api.Token{{}}, "\x00"}, {lits("\xff\x00\xff"), "\xff\x00\xff"},
		{[]api.Token{lit('a'), run(3, 1)}, "aaaa"},
		{[]api.Token{lit('a'), run(api.LongRun, 1)}, strings.Repeat("a", 259)},
		{[]api.Token{lit('a'), lit('b'), run(3, 2)}, "ababa"},
		{[]api.Token{lit('a'), lit('b'), lit('c'), run(3, 3)}, "abcabc"},
		{[]api.Token{lit('a'), lit('b'), lit('c'), run(7, 3), lit('d')}, "abcabcabcad"},
		{[]api.Token{lit('a'), run(3, 1), lit('b'), run(4, 5), run(3, 2)}, "aaaabaaaaaaa"},
		{[]api.Token{lit('a'), run(3, 1), run(3, 4), run(10, 7), lit('z'), run(4, 2)}, strings.Repeat("a", 17) + "zazaz"},
		{append(telling(api.Window), run(3, api.Window)), strings.Repeat("x", api.Window+3)},
	} {
		if !match.Right(x.l) {
			t.Errorf("%d: not Right", i)
		}
		if b, ok := match.Tell(x.l); !ok || string(b) != x.told {
			t.Errorf("%d: %q, %v", i, b, ok)
		}
		hold(t, x.l)
	}
}

func TestWhatIsNotRight(t *testing.T) { // P7.1
	ahead := telling(2 * api.Window) // so much that only the token itself can be amiss
	for _, wrong := range []api.Token{
		run(2, 1), run(1, 1), run(api.LongRun+1, 1), run(3, 0), run(api.LongRun, 0), run(3, api.Window+1),
		run(0, 1), run(0, api.Window), {Byte: 'a', Long: 3}, {Byte: 'a', Back: 1},
		{Byte: 1, Long: 3, Back: 1}, {Byte: 255, Long: api.LongRun, Back: api.Window},
		run(-1, 1), run(-3, 1), run(3, -1), run(-3, -1), run(-1, 0), run(0, -1), {Byte: 'a', Long: -1}, {Byte: 'a', Back: -1},
		run(math.MaxInt, 1), run(3, math.MaxInt), run(math.MaxInt, math.MaxInt), run(math.MaxInt, 0), run(0, math.MaxInt),
		run(math.MinInt, 1), run(3, math.MinInt), run(math.MinInt, math.MinInt), run(math.MinInt, 0), run(0, math.MinInt),
		run(1<<32+3, 1), run(3, 1<<32+1), run(256+3, 1), run(3, 1<<16+1),
	} {
		for _, l := range [][]api.Token{append(slices.Clone(ahead), wrong), append(slices.Clone(ahead), wrong, lit('a')), {wrong}, {lit('a'), wrong}} {
			if match.Right(l) {
				t.Errorf("%v behind %d tokens: Right", wrong, len(l)-1)
			}
			if b, ok := match.Tell(l); ok || len(b) != 0 {
				t.Errorf("%v behind %d tokens: %d bytes, %v", wrong, len(l)-1, len(b), ok)
			}
		}
	}
}

func TestBackIsAtMostWhatIsToldAhead(t *testing.T) { // P7.1
	for _, n := range []int{0, 1, 2, 3, 4, 5, 257, 258, 259, 260, 517, api.Window - 1, api.Window, api.Window + 1} {
		for _, back := range []int{1, n - 1, n, n + 1, api.Window, api.Window + 1} {
			want := back >= 1 && back <= n && back <= api.Window
			l := append(telling(n), run(3, back))
			if got := match.Right(l); got != want {
				t.Errorf("%d back behind %d bytes: %v", back, n, got)
			}
			b, ok := match.Tell(l)
			if ok != want || ok && len(b) != n+3 || !ok && len(b) != 0 {
				t.Errorf("%d back behind %d bytes: %d bytes, %v", back, n, len(b), ok)
			}
		}
	}
	// What stands behind a run does not count for it.
	if match.Right([]api.Token{lit('a'), run(3, 2), lit('b'), lit('c')}) {
		t.Error("bytes behind a run count for it")
	}
}

func TestEachRunAtEachDistance(t *testing.T) { // P7.1
	ahead := lits("abcdefghijklmnop")
	for long := -2; long <= api.LongRun+2; long++ {
		for back := -2; back <= len(ahead)+2; back++ {
			for _, b := range []byte{0, 1} {
				hold(t, append(slices.Clone(ahead), api.Token{Byte: b, Long: long, Back: back}, lit('q')))
			}
		}
	}
}

func TestAllShortLists(t *testing.T) { // P7.1
	var tokens []api.Token
	for _, b := range []byte{0, 'a', 'b'} {
		for _, long := range []int{0, 2, 3, 4} {
			for back := range 6 {
				tokens = append(tokens, api.Token{Byte: b, Long: long, Back: back})
			}
		}
	}
	for _, first := range []api.Token{lit('x'), run(3, 1), {Long: 3}, {Back: 1}} {
		for _, second := range tokens {
			hold(t, []api.Token{first, second})
			for _, third := range tokens {
				hold(t, []api.Token{first, second, third})
			}
		}
	}
}

func TestTokensByChance(t *testing.T) { // P7.1
	rnd := rand.New(rand.NewSource(71))
	right := 0
	for range 3000 {
		var l []api.Token
		told := 0
		for range rnd.Intn(30) {
			switch kind := rnd.Intn(40); {
			case kind == 0:
				l = append(l, api.Token{Byte: byte(rnd.Intn(2)), Long: rnd.Intn(6) - 1, Back: rnd.Intn(6) - 1})
			case kind < 20 && told > 0:
				l = append(l, run(3+rnd.Intn(20), 1+rnd.Intn(told)))
			default:
				l = append(l, lit(byte(rnd.Intn(256))))
			}
			told += max(l[len(l)-1].Long, 1)
		}
		if match.Right(l) {
			right++
		}
		hold(t, l)
	}
	if right < 500 || right > 2900 {
		t.Errorf("%d of the lists are Right: too one-sided", right)
	}
}

// nearAhead tells of each place whether three bytes begin there that also begin 1 to near bytes ahead.
func nearAhead(data []byte) []bool {
	is := make([]bool, len(data))
	for i := range data {
		if i+3 > len(data) {
			break
		}
		for back := 1; back <= min(near, i) && !is[i]; back++ {
			is[i] = bytes.Equal(data[i:i+3], data[i-back:i-back+3])
		}
	}
	return is
}

// toldAlone tells of each place whether a byte alone tells it.
func toldAlone(l []api.Token) []bool {
	var is []bool
	for _, t := range l {
		if t.Long == 0 {
			is = append(is, true)
		}
		is = append(is, make([]bool, t.Long)...)
	}
	return is
}

// find is Find, after all was looked at that P7.2 and P7.4 say of any data.
func find(t *testing.T, data []byte, level int) []api.Token {
	t.Helper()
	was := slices.Clone(data)
	l := match.Find(data, level)
	if !bytes.Equal(data, was) {
		t.Fatalf("level %d: the data is changed", level)
	}
	if b, ok := match.Tell(l); !match.Right(l) || !ok || !bytes.Equal(b, data) {
		t.Fatalf("level %d of %.100q (%d bytes): %d tokens tell %d bytes, %v", level, data, len(data), len(l), len(b), ok)
	}
	if len(l) > len(data) {
		t.Fatalf("level %d of %.100q: %d tokens of %d bytes", level, data, len(l), len(data))
	}
	alone := toldAlone(l)
	if level < 1 {
		if slices.Contains(alone, false) || len(l) != len(data) {
			t.Fatalf("level %d of %.100q: not bytes alone", level, data)
		}
		return l
	}
	is := nearAhead(data)
	for i := range len(data) - 1 {
		if is[i] && is[i+1] && alone[i] && alone[i+1] {
			t.Fatalf("level %d of %.100q: %d and the one behind are told alone: %q", level, data, i, data[max(0, i-near):min(i+4, len(data))])
		}
	}
	return l
}

// allLevels are those of find, and some that look for nothing.
func allLevels() []int {
	return append([]int{math.MinInt, -1, 0}, levels...)
}

func TestNoDataAndLittle(t *testing.T) { // P7.2, P7.4
	for _, level := range allLevels() {
		for _, none := range [][]byte{nil, {}} {
			if l := match.Find(none, level); len(l) != 0 {
				t.Errorf("level %d of nothing: %v", level, l)
			}
		}
		for _, text := range []string{"a", "\x00", "aa", "ab", "aaa", "abc", "aab"} {
			if l := find(t, []byte(text), level); !slices.Equal(l, lits(text)) {
				t.Errorf("level %d of %q: %v", level, text, l)
			}
		}
	}
}

func TestLevelsBelowOneTellBytesAlone(t *testing.T) { // P7.2
	rnd := rand.New(rand.NewSource(72))
	for _, level := range []int{math.MinInt, -7, -1, 0} {
		for _, text := range []string{"aaaaaaaaaa", "abcabcabcabc", strings.Repeat("\x00", 2000), strings.Repeat("wain", 500)} {
			if l := find(t, []byte(text), level); !slices.Equal(l, lits(text)) {
				t.Errorf("level %d of %.20q: %d tokens", level, text, len(l))
			}
		}
		data := make([]byte, 3000)
		rnd.Read(data)
		find(t, data, level)
	}
}

// eachText goes through all texts of a length with the letters below a bound.
func eachText(n, bound int, f func(text []byte)) {
	text := make([]byte, n)
	for {
		f(text)
		i := 0
		for i < n && int(text[i]) == bound-1 {
			text[i] = 0
			i++
		}
		if i == n {
			return
		}
		text[i]++
	}
}

func TestAllShortTexts(t *testing.T) { // P7.2, P7.4
	for _, x := range []struct{ most, letters int }{{12, 2}, {8, 3}, {6, 4}} {
		for n := range x.most + 1 {
			eachText(n, x.letters, func(text []byte) {
				for _, level := range []int{0, 1, 2, 3} {
					find(t, text, level)
				}
			})
		}
	}
}

func TestLikeBytes(t *testing.T) { // P7.2, P7.4
	lengths := []int{1 << 15, 1<<15 + 1, 1<<15 + 2, 1 << 16, 100000}
	for n := range 1100 {
		lengths = append(lengths, n)
	}
	for _, n := range lengths {
		for _, b := range []byte{0, 'x', 255} {
			data := bytes.Repeat([]byte{b}, n)
			for _, level := range []int{1, 2, 3, math.MaxInt} {
				l := match.Find(data, level)
				if told, ok := match.Tell(l); !ok || !bytes.Equal(told, data) {
					t.Fatalf("level %d of %d like bytes: %v", level, n, l)
				}
				if n > 3 && len(l) > 4+n/200 {
					t.Errorf("level %d of %d like bytes: %d tokens", level, n, len(l))
				}
			}
		}
	}
	for _, n := range []int{4, 5, 64, 65, 66, 258, 259, 260, 261, 262, 600} {
		for _, level := range levels {
			find(t, bytes.Repeat([]byte{7}, n), level)
		}
	}
}

// The bytes that never has not, for the places where something else begins.
const (
	seam  = 0
	other = 255
)

// unlike are bytes of which no three come again.
var unlike = makeUnlike(2 * api.Window)

func makeUnlike(n int) []byte {
	data := []byte{1, 2}
	seen := map[[3]byte]bool{}
	for next := 0; len(data) < n; next++ {
		data = append(data, byte(1+next%254))
		if three := [3]byte(data[len(data)-3:]); !seen[three] {
			seen[three] = true
			continue
		}
		data = data[:len(data)-1]
	}
	return data
}

// never are n bytes of which no three come again.
func never(n int) []byte {
	return slices.Clone(unlike[:n])
}

func TestBytesThatNeverComeAgain(t *testing.T) { // P7.2
	all := make([]byte, 256)
	for i := range all {
		all[i] = byte(i)
	}
	for _, data := range [][]byte{all, never(20000)} {
		for _, level := range levels {
			if l := find(t, data, level); !slices.Equal(l, lits(string(data))) {
				t.Errorf("level %d of %d bytes: %d tokens", level, len(data), len(l))
			}
		}
	}
}

// again is data of which so many bytes come again once at its end, so far further on, and nothing else does.
func again(long, back, ahead int) []byte {
	data := append(never(ahead+back-1), seam)
	return append(data, data[ahead:ahead+long]...)
}

// backs are the distances of the runs.
func backs(l []api.Token) []int {
	var all []int
	for _, t := range l {
		if t.Long > 0 {
			all = append(all, t.Back)
		}
	}
	return all
}

func TestFourBytesThatComeAgain(t *testing.T) { // P7.2
	// Of four bytes three begin at two places side by side: one of them is told by a run, and
	// no run but one that reaches so far back can be.
	for _, ahead := range []int{0, 1, 5, 200} {
		for _, back := range []int{4, 5, 31, 62, near - 1, near} {
			for _, level := range levels {
				for _, behind := range []string{"", string([]byte{other})} {
					data := append(again(4, back, ahead), behind...)
					if l := find(t, data, level); !slices.Equal(backs(l), []int{back}) {
						t.Errorf("level %d, %d back: %v", level, back, l[ahead:])
					}
				}
			}
		}
	}
}

func TestBytesThatComeAgainAtEachDistance(t *testing.T) { // P7.2
	for _, long := range []int{3, 4, 5, 30} {
		for back := long; back <= near+3; back++ {
			for _, level := range levels {
				data := append(again(long, back, 10), other)
				l := find(t, data, level)
				for _, got := range backs(l) {
					if got != back {
						t.Errorf("level %d, %d bytes %d back: %v", level, long, back, l[10:])
					}
				}
				if long > 3 && back <= near && len(backs(l)) == 0 {
					t.Errorf("level %d, %d bytes %d back: no run", level, long, back)
				}
			}
		}
	}
	for _, level := range levels {
		for _, text := range []string{"aaaa", "zaaaa", "aaaaz", "aaaaa", "zaaaaaz"} { // 1 back
			find(t, []byte(text), level)
		}
	}
}

func TestTheGreatestDistance(t *testing.T) { // P7.2
	for _, long := range []int{3, 4, api.LongRun, api.LongRun + 1} {
		for _, level := range []int{1, 2, 3} {
			for _, ahead := range []int{0, 1, 300} {
				find(t, again(long, api.Window-1, ahead), level)
				find(t, again(long, api.Window, ahead), level)
				// One byte further off no run can reach.
				data := again(long, api.Window+1, ahead)
				if l := find(t, data, level); !slices.Equal(l, lits(string(data))) {
					t.Errorf("level %d, %d bytes more than a window ahead: %v", level, long, l[ahead+api.Window:])
				}
			}
		}
	}
}

func TestLongRuns(t *testing.T) { // P7.2
	// What comes again is longer than a run may be, so that one more must begin, at once or one further on.
	for long := api.LongRun - 3; long <= 2*api.LongRun+6; long++ {
		data := bytes.Repeat(never(near), long/near+2)[:near+long]
		for _, level := range []int{1, 2, 3} {
			find(t, append(data, other), level)
		}
	}
}

func TestPeriods(t *testing.T) { // P7.2, P7.4
	for period := 1; period <= near+3; period++ {
		for _, n := range []int{period + 2, period + 3, period + 4, 5 * period, 700 + period} {
			data := bytes.Repeat(never(period), n/period+1)[:n]
			for _, level := range []int{1, 2, 3, 4} {
				find(t, data, level)
			}
		}
	}
}

func TestRunsThatAreLongerOneByteFurtherOn(t *testing.T) { // P7.2
	// Who waits at each place for the longer run of the next one tells too many bytes alone.
	const text = "abcdefghijklmnopqrstuvwxyz"
	for many := 2; many <= 6; many++ {
		data := ""
		for i := range many {
			data += text[i:2*i+3] + string(byte('0'+i))
		}
		data += "!" + text
		for _, level := range levels {
			find(t, []byte(data), level)
		}
	}
}

// blend is data of pieces that were there already and of new bytes.
func blend(rnd *rand.Rand, n, letters, far int) []byte {
	var data []byte
	for len(data) < n {
		if len(data) > 0 && rnd.Intn(2) == 0 {
			back := 1 + rnd.Intn(min(len(data), far))
			for range 1 + rnd.Intn(12) {
				data = append(data, data[len(data)-back])
			}
			continue
		}
		for range 1 + rnd.Intn(5) {
			data = append(data, byte(rnd.Intn(letters)))
		}
	}
	return data[:n]
}

func TestDataByChance(t *testing.T) { // P7.2, P7.4
	rnd := rand.New(rand.NewSource(73))
	for _, letters := range []int{1, 2, 3, 5, 16, 256} {
		for _, far := range []int{1, 4, near - 1, near, near + 1, 500, 1 << 16} {
			for _, n := range []int{10, 70, 300, 3000} {
				data := blend(rnd, n, letters, far)
				for _, level := range []int{0, 1, 2, 3, 100} {
					find(t, data, level)
				}
			}
		}
	}
}

func TestDataOfManyWindows(t *testing.T) { // P7.2, P7.4
	rnd := rand.New(rand.NewSource(74))
	for _, letters := range []int{2, 4, 20, 256} {
		data := blend(rnd, 4*api.Window+rnd.Intn(1000), letters, 2*api.Window)
		for _, level := range []int{1, 2, 3} {
			find(t, data, level)
		}
	}
}

func TestNearBytesAmongManyFurtherOff(t *testing.T) { // P7.2
	// All three bytes stood there thousands of times; the search is given up long before their first.
	rnd := rand.New(rand.NewSource(75))
	data := make([]byte, 3*api.Window)
	for i := range data {
		data[i] = byte(rnd.Intn(7))
	}
	for _, level := range levels {
		find(t, data, level)
	}
}

// slot is where match keeps three bytes today; a match that keeps them otherwise must hold too.
func slot(a, b, c byte) uint32 {
	return (uint32(a) | uint32(b)<<8 | uint32(c)<<16) * 0x9e3779b1 >> 18
}

// crowd are words of four bytes that are kept where word is, both its first and its last three bytes.
func crowd(word string) []string {
	first, second := slot(word[0], word[1], word[2]), slot(word[1], word[2], word[3])
	var all []string
	for v := range 1 << 24 {
		a, b, c := byte(v), byte(v>>8), byte(v>>16)
		if slot(a, b, c) != first {
			continue
		}
		for d := range 256 {
			if w := string([]byte{a, b, c, byte(d)}); slot(b, c, byte(d)) == second && w != word {
				all = append(all, w)
			}
		}
	}
	return all
}

func TestOthersAreKeptAtTheSamePlace(t *testing.T) { // P7.2
	most := 0
	for _, word := range []string{"wain", "load", "\x00\x01\x02\x03", "\xff\x80\x7f\x01"} {
		words := crowd(word)
		words = words[:min(len(words), near/4-1)]
		most = max(most, len(words))
		data := word + strings.Join(words, "") + word
		for _, level := range levels {
			if l := find(t, []byte(data), level); len(backs(l)) == 0 {
				t.Errorf("level %d of %q: no run", level, data)
			}
		}
	}
	if most < near/8 {
		t.Errorf("at most %d others: too few to be of weight", most)
	}
}

// tokens are n of them, all unlike.
func tokens(n int) []api.Token {
	l := make([]api.Token, n)
	for i := range l {
		l[i] = api.Token{Byte: byte(i), Long: i, Back: -i}
	}
	return l
}

func TestCut(t *testing.T) { // P7.3, P7.4
	for n := range 20 {
		for _, many := range []int{math.MinInt, -1, 0, 1, 2, 3, 5, n - 1, n, n + 1, 100, 1 << 40, math.MaxInt - 1, math.MaxInt} {
			l := tokens(n)
			rows := match.Cut(l, many)
			if !slices.Equal(l, tokens(n)) {
				t.Fatalf("%d tokens, %d: changed", n, many)
			}
			if all := slices.Concat(rows...); !slices.Equal(all, l) {
				t.Errorf("%d tokens, %d: %v", n, many, rows)
			}
			each := many
			if many < 1 {
				each = n
			}
			for i, row := range rows {
				if len(row) == 0 || len(row) > each || i < len(rows)-1 && len(row) != each {
					t.Errorf("%d tokens, %d: row %d has %d", n, many, i, len(row))
				}
			}
			if many < 1 && n > 0 && len(rows) != 1 {
				t.Errorf("%d tokens, %d: %d rows", n, many, len(rows))
			}
		}
	}
}

func TestCutAtItsEdges(t *testing.T) { // P7.3
	for _, x := range []struct {
		n, many int
		rows    []int // how many tokens each has
	}{
		{0, math.MinInt, nil}, {0, -1, nil}, {0, 0, nil}, {0, 1, nil}, {0, 7, nil}, {0, math.MaxInt, nil},
		{1, -1, []int{1}}, {1, 0, []int{1}}, {1, 1, []int{1}}, {1, 2, []int{1}},
		{7, math.MinInt, []int{7}}, {7, -3, []int{7}}, {7, 0, []int{7}}, {7, 1, []int{1, 1, 1, 1, 1, 1, 1}},
		{7, 3, []int{3, 3, 1}}, {7, 6, []int{6, 1}}, {7, 7, []int{7}}, {7, 8, []int{7}}, {7, math.MaxInt, []int{7}},
		{6, 3, []int{3, 3}}, {1000, 999, []int{999, 1}},
	} {
		var got []int
		for _, row := range match.Cut(tokens(x.n), x.many) {
			got = append(got, len(row))
		}
		if !slices.Equal(got, x.rows) {
			t.Errorf("%d tokens, %d: %v", x.n, x.many, got)
		}
	}
	if rows := match.Cut(nil, 3); len(rows) != 0 {
		t.Errorf("nothing: %v", rows)
	}
}

func TestRowsAreTheCallersOwn(t *testing.T) { // R5, R6
	for _, many := range []int{-1, 0, 1, 2, 3, 7, 8} {
		l := tokens(8)
		rows := match.Cut(l[:7], many)
		for i, row := range rows {
			was := slices.Concat(rows[i+1:]...)
			for j := range row {
				row[j] = lit('!')
			}
			_ = append(row, lit('?'), lit('?'))
			if !slices.Equal(slices.Concat(rows[i+1:]...), was) {
				t.Errorf("%d: row %d shares memory with another", many, i)
			}
		}
		if !slices.Equal(l, tokens(8)) {
			t.Errorf("%d: the rows share memory with the tokens", many)
		}
		rows = match.Cut(l, many)
		want := fmt.Sprint(rows)
		clear(l)
		if fmt.Sprint(rows) != want {
			t.Errorf("%d: the tokens share memory with the rows", many)
		}
	}
}

func TestAnswersAreTheCallersOwn(t *testing.T) { // R5, R6, R7
	data := []byte("the wain the load the wain the load")
	for _, level := range allLevels() {
		room := append(slices.Clone(data), "behind"...)
		first := match.Find(room[:len(data)], level)
		want := slices.Clone(first)
		told, _ := match.Tell(first)
		for i := range told {
			told[i] = '!'
		}
		if !slices.Equal(first, want) {
			t.Errorf("level %d: what is told shares memory with the tokens", level)
		}
		clear(first)
		if string(room) != string(data)+"behind" {
			t.Errorf("level %d: the data or its room is changed", level)
		}
		if second := match.Find(data, level); !slices.Equal(second, want) {
			t.Errorf("level %d: %v, then %v", level, want, second)
		}
		clear(room)
		if b, ok := match.Tell(want); !ok || string(b) != string(data) {
			t.Errorf("level %d: %q, %v", level, b, ok)
		}
	}
}

func TestTheSameCallsTellTheSame(t *testing.T) { // R7
	rnd := rand.New(rand.NewSource(77))
	for range 30 {
		data := blend(rnd, 2000, 8, 500)
		level := 1 + rnd.Intn(4)
		l := match.Find(data, level)
		match.Find(blend(rnd, 100, 8, 500), level)
		if again := match.Find(slices.Clip(slices.Clone(data)), level); !slices.Equal(again, l) {
			t.Fatalf("level %d: %v, then %v", level, l, again)
		}
	}
}
