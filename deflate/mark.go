package deflate

import "wainload/api"

// The symbols of a block's data: below endBlock bytes, above it runs.
const (
	endBlock    = 256
	firstRun    = 257
	longestRun  = 285
	mostSymbols = 286
	mostBacks   = 30
	shortRun    = 3
)

// mark is a symbol, and what is left of a number that is more than the symbol's least one: so many further bits.
type mark struct {
	symbol, left, further int
}

// each goes through tokens: symbol is called for each symbol that they are written as, the end's among
// them, back for each distance's.
func each(l []api.Token, symbol, back func(mark)) {
	for _, t := range l {
		if t.Long == 0 {
			symbol(mark{symbol: int(t.Byte)})
			continue
		}
		symbol(longMark(t.Long))
		back(backMark(t.Back))
	}
	symbol(mark{symbol: endBlock})
}

// longMark is a run's length. The longest one has a symbol of its own, for it is the one most often met.
func longMark(long int) mark {
	if long == api.LongRun {
		return mark{symbol: longestRun}
	}
	m := split(long-shortRun, 2)
	m.symbol += firstRun
	return m
}

// backMark is a run's distance.
func backMark(back int) mark {
	return split(back-1, 1)
}

// split makes a symbol of a number's highest bit, of the fine bits behind it, and of how many are left
// then. So 2^fine symbols in a row have as many further bits, and the next ones one more.
func split(number, fine int) mark {
	further := 0
	for number>>further >= 2<<fine {
		further++
	}
	return mark{
		symbol:  further<<fine + number>>further,
		left:    number & (1<<further - 1),
		further: further,
	}
}
