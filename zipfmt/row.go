package zipfmt

import "wainload/fields"

// row is bytes that are taken piece by piece. What is amiss with one is kept, so that it can be asked once, behind all of them.
type row struct {
	rest    []byte
	isAmiss bool
}

func rowAt(b []byte, place int) *row {
	r := &row{rest: b}
	r.take(place)
	return r
}

// take takes n bytes, and leaves no room behind them that belongs to the next ones.
func (r *row) take(n int) []byte {
	if n > len(r.rest) {
		r.rest, r.isAmiss = nil, true
		return nil
	}
	b := r.rest[:n:n]
	r.rest = r.rest[n:]
	return b
}

func (r *row) number(n int) int {
	v := fields.Le(r.take(n))
	if v > mostNumber {
		r.isAmiss = true
		return 0
	}
	return int(v)
}

func (r *row) must(is bool) { r.isAmiss = r.isAmiss || !is }

func (r *row) mustBe(v, n int) { r.must(r.number(n) == v) }

func (r *row) mark(s string) { r.must(string(r.take(len(s))) == s) }

// put lays a number behind b.
func put(b []byte, v, n int) []byte { return append(b, fields.PutLe(uint64(v), n)...) }
