package bits_test

import (
	"bytes"
	"math"
	"slices"
	"testing"

	"wainload/bits"
)

// wrongCounts are numbers of bits that no call takes, also those at which sums and products wrap round.
var wrongCounts = []int{-1, -8, -24, 25, 32, 63, 64, 1 << 32, 1 << 60, 1 << 61, math.MinInt, math.MinInt + 1, math.MaxInt}

func wantBits(t *testing.T, r *bits.Reader, n, v int, is bool) {
	t.Helper()
	if gotV, gotIs := r.Bits(n); gotV != v || gotIs != is {
		t.Errorf("P1.2: Bits(%d) = %#x, %v; want %#x, %v", n, gotV, gotIs, v, is)
	}
}

func wantBytes(t *testing.T, r *bits.Reader, n int, b string, is bool) {
	t.Helper()
	if gotB, gotIs := r.Bytes(n); string(gotB) != b || gotIs != is {
		t.Errorf("P1.2: Bytes(%d) = %x, %v; want %x, %v", n, gotB, gotIs, b, is)
	}
}

func wantLeft(t *testing.T, r *bits.Reader, left int) {
	t.Helper()
	if got := r.Left(); got != left {
		t.Errorf("P1.1: Left() = %d; want %d", got, left)
	}
}

func wantData(t *testing.T, w *bits.Writer, long int, data string) {
	t.Helper()
	if got := w.Len(); got != long {
		t.Errorf("P1.3: Len() = %d; want %d", got, long)
	}
	if got := w.Data(); string(got) != data {
		t.Errorf("P1.3: Data() = %x; want %x", got, data)
	}
}

// readerAt stands behind the first at bits of b.
func readerAt(b []byte, at int) *bits.Reader {
	r := bits.NewReader(b)
	for range at {
		r.Bits(1)
	}
	return r
}

func TestReaderBeginsAtTheFirstBit(t *testing.T) { // P1.1
	for n := range 5 {
		wantLeft(t, bits.NewReader(make([]byte, n)), n*8)
	}
	wantLeft(t, bits.NewReader(nil), 0)
	r := bits.NewReader([]byte{0b0000_0010})
	wantBits(t, r, 1, 0, true)
	wantBits(t, r, 1, 1, true)
	wantLeft(t, r, 6)
}

func TestReaderKeepsItsBytes(t *testing.T) { // P1.1: what is written into them later is read
	b := []byte{1, 2, 3}
	r := bits.NewReader(b)
	wantBits(t, r, 4, 1, true)
	b[0], b[1], b[2] = 0x50, 0x66, 0x77
	wantBits(t, r, 4, 5, true)
	wantBits(t, r, 8, 0x66, true)
	wantBytes(t, r, 1, "\x77", true)
}

func TestReaderNeverWrites(t *testing.T) { // P1.1, R5: nor behind the end, where there is room
	whole := []byte{0x12, 0x34, 0x56, 0x78, 0x9a, 0xbc}
	was := bytes.Clone(whole)
	r := bits.NewReader(whole[1:4])
	r.Bits(5)
	r.Align()
	r.Bytes(1)
	r.Bits(8)
	r.Bits(1)
	r.Bytes(1)
	if !bytes.Equal(whole, was) {
		t.Errorf("P1.1: the bytes became %x", whole)
	}
}

func TestReadersAreApart(t *testing.T) { // P1.1
	b := []byte{0xa5, 0x5a}
	one, two := bits.NewReader(b), bits.NewReader(b)
	wantBits(t, one, 8, 0xa5, true)
	wantBits(t, two, 4, 5, true)
	wantLeft(t, one, 8)
	wantLeft(t, two, 12)
}

func TestReaderBitsExample(t *testing.T) { // P1.2
	r := bits.NewReader([]byte{0x05, 0x81})
	wantBits(t, r, 3, 5, true)
	wantBits(t, r, 6, 32, true)
	wantLeft(t, r, 7)
	wantBits(t, r, 8, 0, false)
	wantLeft(t, r, 7)
	wantBits(t, r, 7, 0x40, true)
	wantLeft(t, r, 0)
}

// TestReaderBitsEverywhere holds each count at each place against the bits one by one.
func TestReaderBitsEverywhere(t *testing.T) { // P1.2
	b := []byte{0x93, 0x0f, 0xe1, 0x5c, 0x7a, 0xff, 0x00}
	for at := range len(b)*8 + 1 {
		for n := range 25 {
			r := readerAt(b, at)
			left := len(b)*8 - at
			if n > left {
				wantBits(t, r, n, 0, false)
				wantLeft(t, r, left)
				continue
			}
			want := 0
			for i := range n {
				want |= int(b[(at+i)/8]>>((at+i)%8)&1) << i
			}
			wantBits(t, r, n, want, true)
			wantLeft(t, r, left-n)
		}
	}
}

func TestReaderBitsEdges(t *testing.T) { // P1.2
	r := bits.NewReader([]byte{0xff, 0xff, 0xff, 0xff})
	wantBits(t, r, 0, 0, true)
	wantLeft(t, r, 32)
	for _, n := range wrongCounts {
		wantBits(t, r, n, 0, false)
		wantLeft(t, r, 32)
	}
	wantBits(t, r, 24, 1<<24-1, true)
	wantBits(t, r, 9, 0, false)
	wantBits(t, r, 8, 255, true)
	wantBits(t, r, 1, 0, false)
	wantBits(t, r, 0, 0, true)
	wantLeft(t, r, 0)
	empty := bits.NewReader([]byte{})
	wantBits(t, empty, 0, 0, true)
	wantBits(t, empty, 1, 0, false)
}

func TestReaderAlign(t *testing.T) { // P1.2
	b := []byte{0x11, 0x22, 0x33}
	for at := range len(b)*8 + 1 {
		r := readerAt(b, at)
		left := (len(b)*8 - at) / 8 * 8
		for range 2 { // the second time a byte begins there
			r.Align()
			wantLeft(t, r, left)
		}
		if left > 0 {
			wantBits(t, r, 8, int(b[len(b)-left/8]), true)
		}
	}
	empty := bits.NewReader(nil)
	empty.Align()
	wantLeft(t, empty, 0)
}

func TestReaderBytes(t *testing.T) { // P1.2
	b := []byte{0x11, 0x22, 0x33, 0x44}
	for at := range len(b)*8 + 1 {
		from := (at + 7) / 8
		for n := range len(b) + 2 {
			r := readerAt(b, at)
			if n > len(b)-from {
				wantBytes(t, r, n, "", false)
				wantLeft(t, r, len(b)*8-at)
				continue
			}
			wantBytes(t, r, n, string(b[from:from+n]), true)
			wantLeft(t, r, (len(b)-from-n)*8)
		}
	}
}

func TestReaderBytesRefused(t *testing.T) { // P1.2: it stays ahead of the Align
	r := bits.NewReader([]byte{0xf1, 0x22})
	wantBits(t, r, 3, 1, true)
	for _, n := range append([]int{2, 3}, wrongCounts...) {
		wantBytes(t, r, n, "", false)
		wantLeft(t, r, 13)
	}
	wantBits(t, r, 5, 0x1e, true)
	wantBytes(t, r, 1, "\x22", true)
	wantBytes(t, r, 1, "", false)
	wantBytes(t, r, 0, "", true)
}

func TestReaderBytesAreTheCallers(t *testing.T) { // P1.2, R6
	b := []byte{1, 2, 3, 4}
	r := bits.NewReader(b)
	first, _ := r.Bytes(2)
	first[0] = 99
	_ = append(first, 77)
	if !bytes.Equal(b, []byte{1, 2, 3, 4}) {
		t.Errorf("P1.2: what is told shares memory with what was given: %v", b)
	}
	b[1] = 88
	if first[1] != 2 {
		t.Error("P1.2: what was told changes with what was given")
	}
	wantBytes(t, r, 2, "\x03\x04", true)
}

func TestWriterExample(t *testing.T) { // P1.3
	w := bits.NewWriter()
	w.Bits(5, 3)
	w.Bits(1, 1)
	w.Align()
	wantData(t, w, 8, "\x0d")
}

func TestWriterWithoutBits(t *testing.T) { // P1.3
	w := bits.NewWriter()
	wantData(t, w, 0, "")
	w.Align()
	w.Bytes(nil)
	w.Bits(-1, 0)
	wantData(t, w, 0, "")
}

// TestWriterBitsEverywhere lays each count behind each other count and looks at all bits.
func TestWriterBitsEverywhere(t *testing.T) { // P1.3
	for _, v := range []int{0, -1, 1, 0x5a3c96, 0x123456789, math.MinInt, math.MaxInt, -0x5a3c96} {
		for first := range 25 {
			for n := range 25 {
				w := bits.NewWriter()
				w.Bits(^v, first)
				w.Bits(v, n)
				var m model
				m.lay(^v, first)
				m.lay(v, n)
				wantData(t, w, len(m), m.data())
			}
		}
	}
}

func TestWriterBitsRefused(t *testing.T) { // P1.3
	w := bits.NewWriter()
	w.Bits(5, 3)
	for _, n := range wrongCounts {
		w.Bits(-1, n)
		wantData(t, w, 3, "\x05")
	}
	w.Bits(-1, 24)
	wantData(t, w, 27, "\xfd\xff\xff\x07")
}

func TestWriterAlign(t *testing.T) { // P1.3
	for n := range 25 {
		w := bits.NewWriter()
		w.Bits(-1, n)
		long := (n + 7) / 8 * 8
		var m model
		m.lay(-1, n)
		for range 2 { // the second time nothing is laid
			w.Align()
			wantData(t, w, long, m.data())
		}
		w.Bits(1, 1)
		wantData(t, w, long+1, m.data()+"\x01")
	}
}

func TestWriterBytes(t *testing.T) { // P1.3
	w := bits.NewWriter()
	w.Bytes([]byte{0x80, 0x01})
	w.Bits(1, 1)
	wantData(t, w, 17, "\x80\x01\x01")
	w.Bytes([]byte{0xfe})
	wantData(t, w, 32, "\x80\x01\x01\xfe")
	w.Bits(1, 2)
	w.Bytes(nil)
	wantData(t, w, 40, "\x80\x01\x01\xfe\x01")
}

func TestWriterKeepsNothingOfTheCallers(t *testing.T) { // R5, R6
	room := []byte{1, 2, 3, 4}
	w := bits.NewWriter()
	w.Bytes(room[:2])
	w.Bits(9, 8)
	w.Bytes([]byte{7})
	if !bytes.Equal(room, []byte{1, 2, 3, 4}) {
		t.Errorf("P1.3: what was given became %v", room)
	}
	room[0] = 55
	wantData(t, w, 32, "\x01\x02\x09\x07")
}

func TestWriterDataIsTheCallers(t *testing.T) { // P1.3, R6
	w := bits.NewWriter()
	w.Bytes([]byte{1, 2})
	w.Bits(1, 1)
	early := w.Data()
	early[0] = 99
	_ = append(early[:1], 88, 77, 66)
	wantData(t, w, 17, "\x01\x02\x01")
	early = w.Data()
	w.Bits(-1, 7)
	w.Bits(-1, 8)
	if string(early) != "\x01\x02\x01" {
		t.Errorf("P1.3: what was told became %x", early)
	}
	wantData(t, w, 32, "\x01\x02\xff\xff")
}

func TestWritersAreApart(t *testing.T) { // P1.3
	one, two := bits.NewWriter(), bits.NewWriter()
	one.Bits(1, 8)
	two.Bits(3, 2)
	wantData(t, one, 8, "\x01")
	wantData(t, two, 2, "\x03")
}

func TestTurn(t *testing.T) { // P1.4
	for _, x := range []struct{ v, n, want int }{
		{1, 4, 8}, {8, 4, 1}, {0b0011, 4, 0b1100}, {-1, 3, 7}, {6, 1, 0}, {7, 1, 1},
		{-1, 0, 0}, {1, 24, 1 << 23}, {-1, 24, 1<<24 - 1}, {math.MinInt, 24, 0}, {math.MaxInt, 24, 1<<24 - 1},
		{1 << 24, 24, 0}, {0x123456, 24, 0x6a2c48},
	} {
		if got := bits.Turn(x.v, x.n); got != x.want {
			t.Errorf("P1.4: Turn(%#x, %d) = %#x; want %#x", x.v, x.n, got, x.want)
		}
	}
	for _, n := range wrongCounts {
		if got := bits.Turn(-1, n); got != 0 {
			t.Errorf("P1.4: Turn(-1, %d) = %#x; want 0", n, got)
		}
	}
}

func TestTurnTwice(t *testing.T) { // P1.5
	for n := range 25 {
		next := numbers(n)
		for range 200 {
			v := next() * next()
			if got, want := bits.Turn(bits.Turn(v, n), n), v&(1<<n-1); got != want {
				t.Errorf("P1.5: Turn twice of %#x, %d = %#x; want %#x", v, n, got, want)
			}
		}
	}
}

// step is a call that both a writer and a reader have.
type step struct {
	kind string
	v, n int
	b    []byte
}

// steps are some that look like chance, and are the same always.
func steps(seed, many int) []step {
	next := numbers(seed)
	var out []step
	for range many {
		switch next() % 6 {
		case 0:
			out = append(out, step{kind: "align"})
		case 1:
			b := make([]byte, next()%5)
			for i := range b {
				b[i] = byte(next())
			}
			out = append(out, step{kind: "bytes", b: b})
		default:
			v := next()*next() - next()*next()
			out = append(out, step{kind: "bits", v: v, n: next()%31 - 3})
		}
	}
	return out
}

// TestWrittenIsRead writes steps, holds the bits against the model, and reads them by the same steps.
func TestWrittenIsRead(t *testing.T) { // P1.5
	for seed := range 300 {
		l := steps(seed, 1+seed%60)
		w := bits.NewWriter()
		var m model
		for _, s := range l {
			write(w, s)
			m.take(s)
			wantData(t, w, len(m), m.data())
		}
		r := bits.NewReader(w.Data())
		for i, s := range l {
			readBack(t, r, s)
			if t.Failed() {
				t.Fatalf("P1.5: seed %d, step %d of %v", seed, i, l)
			}
		}
		if left := len(w.Data())*8 - w.Len(); r.Left() != left {
			t.Fatalf("P1.5: seed %d: %d bits left; want %d", seed, r.Left(), left)
		}
	}
}

func write(w *bits.Writer, s step) {
	switch s.kind {
	case "align":
		w.Align()
	case "bytes":
		w.Bytes(s.b)
	default:
		w.Bits(s.v, s.n)
	}
}

func readBack(t *testing.T, r *bits.Reader, s step) {
	t.Helper()
	switch s.kind {
	case "align":
		r.Align()
	case "bytes":
		wantBytes(t, r, len(s.b), string(s.b), true)
	default:
		if s.n < 0 || s.n > 24 {
			wantBits(t, r, s.n, 0, false)
		} else {
			wantBits(t, r, s.n, s.v&(1<<s.n-1), true)
		}
	}
}

// model is bits one by one: what a writer must be, written as plainly as can be.
type model []byte

func (m *model) lay(v, n int) {
	for i := range n {
		*m = append(*m, byte(v>>i&1))
	}
}

func (m *model) align() {
	for len(*m)%8 != 0 {
		*m = append(*m, 0)
	}
}

func (m *model) take(s step) {
	switch {
	case s.kind == "align":
		m.align()
	case s.kind == "bytes":
		m.align()
		for _, x := range s.b {
			m.lay(int(x), 8)
		}
	case s.n >= 0 && s.n <= 24:
		m.lay(s.v, s.n)
	}
}

func (m *model) data() string {
	full := model(slices.Clone(*m))
	full.align()
	out := make([]byte, len(full)/8)
	for i, bit := range full {
		out[i/8] |= bit << (i % 8)
	}
	return string(out)
}

// numbers gives numbers of 31 bits that look like chance, the same ones for the same seed.
func numbers(seed int) func() int {
	x := uint64(seed)*2 + 1
	return func() int {
		x = x*6364136223846793005 + 1442695040888963407
		return int(x >> 33)
	}
}
