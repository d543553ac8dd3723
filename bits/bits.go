// Package bits is layer 1: see shared/doc/01-bits.md.
package bits

// mostBits is how many bits one call takes, lays or turns at the most.
const mostBits = 24

// fits tells whether a call may be about n bits.
func fits(n int) bool {
	return n >= 0 && n <= mostBits
}

// low is the n lowest bits of v as a number, also of a v below 0.
func low(v, n int) int {
	return v & (1<<n - 1)
}

// Reader takes bits. It looks into the text at each call and holds no bits back,
// so that the place where it stands is a single number.
type Reader struct {
	text []byte
	at   int // how many bits are taken
}

// NewReader stands at the beginning.
func NewReader(b []byte) *Reader {
	return &Reader{text: b}
}

// Bits takes some as a number; Align goes to where a byte begins; Bytes takes bytes; Left is how many bits are left.
func (r *Reader) Bits(n int) (int, bool) {
	if !fits(n) || n > r.Left() {
		return 0, false
	}
	next := pieces(r.text, r.at)
	v := 0
	for got := 0; got < n; {
		piece, long := next(n - got)
		v |= piece << got
		got += long
	}
	r.at += n
	return v, true
}

// pieces goes through the bits of a text from a place on: each call of what it gives tells
// the next bits that lie in one byte, at most as many as are wanted, and how many these are.
// A caller wants no more than are left.
func pieces(text []byte, at int) func(int) (int, int) {
	return func(wanted int) (int, int) {
		inside := at % 8
		long := min(8-inside, wanted)
		piece := low(int(text[at/8])>>inside, long)
		at += long
		return piece, long
	}
}

func (r *Reader) Align() {
	r.at = r.nextByte() * 8
}

// nextByte is the number of the first byte of which no bit is taken yet.
func (r *Reader) nextByte() int {
	return (r.at + 7) / 8
}

func (r *Reader) Bytes(n int) ([]byte, bool) {
	from := r.nextByte()
	// In bytes, not in bits: 8 times a great n would wrap round.
	if n < 0 || n > len(r.text)-from {
		return nil, false
	}
	out := make([]byte, n)
	copy(out, r.text[from:])
	r.at = (from + n) * 8
	return out, true
}

func (r *Reader) Left() int {
	return len(r.text)*8 - r.at
}

// Writer lays bits.
type Writer struct {
	whole   []byte
	waiting int // bits that are no byte yet, the first of them lowest; 0 above them
	many    int // how many wait: 0 to 7 between calls
}

// NewWriter has none.
func NewWriter() *Writer {
	return &Writer{}
}

// Bits lays those of a number; Align fills a byte up; Bytes lays bytes; Len is how many bits there are; Data are the bytes.
func (w *Writer) Bits(v, n int) {
	if !fits(n) {
		return
	}
	w.waiting |= low(v, n) << w.many
	w.many += n
	for w.many >= 8 {
		w.whole = append(w.whole, byte(w.waiting))
		w.waiting >>= 8
		w.many -= 8
	}
}

func (w *Writer) Align() {
	if w.many > 0 {
		w.Bits(0, 8-w.many)
	}
}

func (w *Writer) Bytes(b []byte) {
	w.Align()
	w.whole = append(w.whole, b...)
}

func (w *Writer) Len() int {
	return len(w.whole)*8 + w.many
}

func (w *Writer) Data() []byte {
	out := make([]byte, len(w.whole), len(w.whole)+1)
	copy(out, w.whole)
	if w.many > 0 {
		out = append(out, byte(w.waiting))
	}
	return out
}

// Turn turns bits round.
func Turn(v, n int) int {
	if !fits(n) {
		return 0
	}
	turned := 0
	for range n {
		turned = turned<<1 | v&1
		v >>= 1
	}
	return turned
}
