package zipfmt

// directory is how many entries it has, and where it stands.
type directory struct {
	many, size, begins, ends int
}

// directoryOf is what the end of an archive says of it.
func directoryOf(b []byte) (directory, bool) {
	at, is := endPlace(b)
	if !is {
		return directory{}, false
	}
	r := rowAt(b, at+len(markEnd))
	r.mustBe(0, 2)
	r.mustBe(0, 2)
	d := directory{ends: at}
	d.many = r.number(2)
	r.mustBe(d.many, 2)
	d.size = r.number(4)
	d.begins = r.number(4)
	if d.many == manyFull || d.size == numberFull || d.begins == numberFull {
		d, is = wideDirectory(b, at)
		r.must(is)
	}
	r.must(d.begins+d.size == d.ends)
	return d, !r.isAmiss
}

// endPlace looks from behind: what looks like an end may stand further ahead, too.
func endPlace(b []byte) (int, bool) {
	last := len(b) - endBytes
	for at := last; at >= max(0, last-mostComment); at-- {
		r := rowAt(b, at)
		r.mark(markEnd)
		r.take(endBytes - len(markEnd) - 2)
		r.mustBe(last-at, 2)
		if !r.isAmiss {
			return at, true
		}
	}
	return 0, false
}

// wideDirectory is what stands ahead of an end whose own numbers have too few bytes.
func wideDirectory(b []byte, end int) (directory, bool) {
	if end < widePlaceBytes {
		return directory{}, false
	}
	at := end - widePlaceBytes
	r := rowAt(b, at)
	r.mark(markWidePlace)
	r.mustBe(0, 4)
	d := directory{ends: r.number(8)}
	r.mustBe(1, 4)
	w := rowAt(b, d.ends)
	w.mark(markWide)
	more := w.number(8)
	w.must(more >= wideLeast && d.ends+wideAhead+more == at)
	w.take(4)
	w.mustBe(0, 4)
	w.mustBe(0, 4)
	d.many = w.number(8)
	w.mustBe(d.many, 8)
	d.size = w.number(8)
	d.begins = w.number(8)
	return d, !r.isAmiss && !w.isAmiss
}
