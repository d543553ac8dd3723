package tarfmt

import (
	"bytes"

	"wainload/api"
	"wainload/fields"
)

const (
	blockBytes = 512
	mark       = "ustar\x0000"
	markGnu    = "ustar  \x00"
)

// header is what one says.
type header struct {
	name, link       string
	mode, size, time int
	letter           byte // of the type
}

// places are a header's bytes, cut in pieces: to write into these is to write into it.
type places struct {
	name, mode, size, time, sum, letter, link, mark, prefix []byte
}

func placesOf(b []byte) places {
	return places{
		name: b[:100], mode: b[100:108], size: b[124:136], time: b[136:148], sum: b[148:156],
		letter: b[156:157], link: b[157:257], mark: b[257:265], prefix: b[345:500],
	}
}

// read is what the bytes of a header say.
func read(b []byte) (header, api.Errno) {
	p := placesOf(b)
	n, are := numbers(p.mode, p.size, p.time, p.sum)
	if !are {
		return header{}, api.ErrTarForm
	}
	if n[3] != sumOf(b) {
		return header{}, api.ErrTarSum
	}
	h := header{name: textOf(p.name), link: textOf(p.link), mode: n[0], size: n[1], time: n[2], letter: p.letter[0]}
	switch string(p.mark) {
	case mark:
		if prefix := textOf(p.prefix); prefix != "" {
			h.name = prefix + "/" + h.name
		}
	case markGnu: // other things stand where the prefix would be
	default:
		return header{}, api.ErrTarForm
	}
	return h, api.OK
}

// numbers also tells whether all of them are numbers.
func numbers(written ...[]byte) ([]int, bool) {
	var l []int
	for _, b := range written {
		n, err := fields.Octal(b)
		if err != api.OK {
			return nil, false
		}
		l = append(l, n)
	}
	return l, true
}

// textOf is the text that a byte 0 ends, or nothing.
func textOf(b []byte) string {
	text, _, _ := bytes.Cut(b, []byte{0})
	return string(text)
}

// sumOf takes the sum's own bytes for blanks, so that it can be asked before it is there.
func sumOf(b []byte) int {
	sum := 0
	for _, x := range b {
		sum += int(x)
	}
	for _, x := range placesOf(b).sum {
		sum += ' ' - int(x)
	}
	return sum
}

// written is the header's bytes; names that are too long for it are cut off.
func (h header) written() []byte {
	b := make([]byte, blockBytes)
	p := placesOf(b)
	copy(p.name, h.name)
	putNumber(p.mode, h.mode)
	putNumber(p.size, h.size)
	putNumber(p.time, h.time)
	p.letter[0] = h.letter
	copy(p.link, h.link)
	copy(p.mark, mark)
	putNumber(p.sum, sumOf(b))
	return b
}

func putNumber(place []byte, n int) {
	digits, _ := fields.PutOctal(n, len(place)) // no number of a tree's is too great for its place
	copy(place, digits)
}
