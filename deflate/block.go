package deflate

import (
	"wainload/api"
	"wainload/bits"
	"wainload/huff"
	"wainload/limit"
)

// mostOften is how often limit lets a symbol be.
const mostOften = 1 << 30

// block is a row of tokens with the lengths of the codes that they are written in.
type block struct {
	tokens         []api.Token
	kind           int
	symbols, backs []int
	size           int // in bits, but for further bits: those are as many however tokens are written
}

// tally is how often each symbol of a row of tokens is.
type tally struct {
	symbols [mostSymbols]int
	backs   [mostBacks]int
}

func count(l []api.Token) *tally {
	t := &tally{}
	each(l,
		func(m mark) { t.symbols[m.symbol]++ },
		func(m mark) { t.backs[m.symbol]++ })
	return t
}

// shorter is a fixed block or a dynamic one.
func shorter(l []api.Token) block {
	t := count(l)
	f, d := fixedBlock(l, t), dynamicBlock(l, t)
	if d.size < f.size {
		return d
	}
	return f
}

func fixedBlock(l []api.Token, t *tally) block {
	b := block{tokens: l, kind: fixed, symbols: fixedSymbols(), backs: fixedBacks()}
	b.size = b.measure(t)
	return b
}

func fixedSymbols() []int {
	lens := make([]int, 288)
	for i := range lens {
		switch {
		case i < 144:
			lens[i] = 8
		case i < 256:
			lens[i] = 9
		case i < 280:
			lens[i] = 7
		default:
			lens[i] = 8
		}
	}
	return lens
}

func fixedBacks() []int {
	lens := make([]int, 32)
	for i := range lens {
		lens[i] = 5
	}
	return lens
}

func dynamicBlock(l []api.Token, t *tally) block {
	b := block{tokens: l, kind: dynamic}
	b.symbols = trim(best(t.symbols[:]), leastSymbols)
	b.backs = trim(best(t.backs[:]), leastBacks)
	b.size = b.measure(t)
	return b
}

// best are the lengths with which symbols have the fewest bits. One that is more than mostOften times
// is, by the document's limits, more often than all others together; its code has one bit then, as it
// has if it is taken for mostOften times.
func best(often []int) []int {
	allowed := make([]int, len(often))
	for i, n := range often {
		allowed[i] = min(n, mostOften)
	}
	lens, _ := limit.Lengths(allowed, api.MaxBits)
	return lens
}

// trim leaves the symbols at the end out that have no code, down to so many.
func trim(lens []int, least int) []int {
	many := len(lens)
	for many > least && lens[many-1] == 0 {
		many--
	}
	return lens[:many]
}

// measure is the block's size. Its beginning is laid for it; its tokens need not be.
func (b block) measure(t *tally) int {
	w := bits.NewWriter()
	b.layHead(w, false)
	return w.Len() + limit.Cost(t.symbols[:], b.symbols) + limit.Cost(t.backs[:], b.backs)
}

func (b block) lay(w *bits.Writer, last bool) {
	b.layHead(w, last)
	// No error may come: the lengths are full, or there is but one, or none.
	symbols, _ := huff.Make(b.symbols, true)
	backs, _ := huff.Make(b.backs, true)
	each(b.tokens, byCode(w, symbols), byCode(w, backs))
}

// layHead lays what stands ahead of the data.
func (b block) layHead(w *bits.Writer, last bool) {
	layKind(w, b.kind, last)
	if b.kind == dynamic {
		layLengths(w, b.symbols, b.backs)
	}
}

// byCode lays symbols, each with its further bits.
func byCode(w *bits.Writer, code *huff.Code) func(mark) {
	return func(m mark) {
		code.Put(w, m.symbol)
		w.Bits(m.left, m.further)
	}
}
