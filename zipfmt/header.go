package zipfmt

// header is what stands in a local header and in the directory alike.
type header struct {
	flags, method, clock, day int
	sum, inside, size         int // bytes that stand in the archive, bytes of the data
	nameBytes, extraBytes     int
}

func (r *row) header() header {
	var h header
	r.take(2) // a version
	h.flags = r.number(2)
	h.method = r.number(2)
	h.clock = r.number(2)
	h.day = r.number(2)
	h.sum = r.number(4)
	h.inside = r.number(4)
	h.size = r.number(4)
	h.nameBytes = r.number(2)
	h.extraBytes = r.number(2)
	return h
}

// putHeader lays h behind b.
func (h header) putHeader(b []byte) []byte {
	b = put(b, version, 2)
	b = put(b, h.flags, 2)
	b = put(b, h.method, 2)
	b = put(b, h.clock, 2)
	b = put(b, h.day, 2)
	b = h.putNumbers(b)
	b = put(b, h.nameBytes, 2)
	return put(b, h.extraBytes, 2)
}

// putNumbers lays those that may stand behind the bytes inside, too.
func (h header) putNumbers(b []byte) []byte {
	b = put(b, h.sum, 4)
	b = put(b, h.inside, 4)
	return put(b, h.size, 4)
}
