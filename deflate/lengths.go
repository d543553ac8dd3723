package deflate

import (
	"slices"

	"wainload/bits"
	"wainload/huff"
	"wainload/limit"
)

// How many lengths a dynamic block tells at the least.
const (
	leastSymbols = 257
	leastBacks   = 1
	leastNumbers = 4
)

// The numbers that lengths are told in: below repeat lengths, from it on lengths that come again.
const (
	repeat     = 16
	zeros      = 17
	manyZero   = 18
	mostNumber = 7 // bits of such a number's code: its length is told in 3 bits
)

// order is the one in which the lengths of the codes of those numbers are told.
var order = [...]int{16, 17, 18, 0, 8, 7, 9, 6, 10, 5, 11, 4, 12, 3, 13, 2, 14, 1, 15}

// layLengths tells the lengths of both codes of a dynamic block, as one row.
func layLengths(w *bits.Writer, symbols, backs []int) {
	numbers := inNumbers(slices.Concat(symbols, backs))
	inner := innerLengths(numbers)
	many := len(order)
	for many > leastNumbers && inner[order[many-1]] == 0 {
		many--
	}
	w.Bits(len(symbols)-leastSymbols, 5)
	w.Bits(len(backs)-leastBacks, 5)
	w.Bits(many-leastNumbers, 4)
	for i := range many {
		w.Bits(inner[order[i]], 3)
	}
	// No error may come: two numbers occur at the least, as 257 or more symbols never have all the same length.
	code, _ := huff.Make(inner, false)
	lay := byCode(w, code)
	for _, m := range numbers {
		lay(m)
	}
}

// innerLengths are those of the numbers' own codes.
func innerLengths(numbers []mark) []int {
	var often [len(order)]int
	for _, m := range numbers {
		often[m.symbol]++
	}
	lens, _ := limit.Lengths(often[:], mostNumber)
	return lens
}

// inNumbers tells lengths as numbers: those that come again by their times.
func inNumbers(lens []int) []mark {
	var numbers []mark
	for len(lens) > 0 {
		long, times := lens[0], same(lens)
		lens = lens[times:]
		if long > 0 { // it must stand there once ahead of a repeat
			numbers = append(numbers, mark{symbol: long})
			times--
		}
		for times > 0 {
			m, taken := again(long, times)
			numbers = append(numbers, m)
			times -= taken
		}
	}
	return numbers
}

// same is how many lengths are like the first one.
func same(lens []int) int {
	n := 1
	for n < len(lens) && lens[n] == lens[0] {
		n++
	}
	return n
}

// again is the number for as many of these times as one can stand for, and how many these are.
func again(long, times int) (mark, int) {
	switch {
	case times < 3:
		return mark{symbol: long}, 1
	case long > 0:
		taken := min(times, 6)
		return mark{symbol: repeat, left: taken - 3, further: 2}, taken
	case times < 11:
		return mark{symbol: zeros, left: times - 3, further: 3}, times
	}
	taken := min(times, 138)
	return mark{symbol: manyZero, left: taken - 11, further: 7}, taken
}
