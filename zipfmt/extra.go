package zipfmt

import "iter"

const fieldAhead = 4 // bytes of a field that say which one it is, and how many more it has

// fieldsOf goes through the fields of an extra, as far as they are whole.
func fieldsOf(extra []byte) iter.Seq2[int, []byte] {
	return func(yield func(int, []byte) bool) {
		for r := (&row{rest: extra}); len(r.rest) > 0; {
			id := r.number(2)
			body := r.take(r.number(2))
			if r.isAmiss || !yield(id, body) {
				return
			}
		}
	}
}

// areFields tells whether extra is nothing but whole fields.
func areFields(extra []byte) bool {
	n := 0
	for _, body := range fieldsOf(extra) {
		n += fieldAhead + len(body)
	}
	return n == len(extra)
}

// field is the first one of that id; one that is not there has no bytes, so that too few are found there.
func field(extra []byte, want int) *row {
	for id, body := range fieldsOf(extra) {
		if id == want {
			return &row{rest: body}
		}
	}
	return &row{}
}
