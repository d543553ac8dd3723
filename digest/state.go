package digest

import "math/bits"

const (
	wordBytes = 4
	steps     = 80 // for each block
)

// state is what is left of all blocks that were taken.
type state [5]uint32

func firstState() state {
	return state{0x67452301, 0xefcdab89, 0x98badcfe, 0x10325476, 0xc3d2e1f0}
}

func (s *state) take(block *[blockBytes]byte) {
	w := spread(block)
	a, b, c, d, e := s[0], s[1], s[2], s[3], s[4]
	for t := range w {
		f, k := mix(t, b, c, d)
		x := bits.RotateLeft32(a, 5) + f + e + k + w[t]
		a, b, c, d, e = x, a, bits.RotateLeft32(b, 30), c, d
	}
	s[0] += a
	s[1] += b
	s[2] += c
	s[3] += d
	s[4] += e
}

// spread makes a word for each step out of a block's words.
func spread(block *[blockBytes]byte) [steps]uint32 {
	var w [steps]uint32
	for t := range w {
		if t < blockBytes/wordBytes {
			w[t] = word(block[t*wordBytes:])
		} else {
			w[t] = bits.RotateLeft32(w[t-3]^w[t-8]^w[t-14]^w[t-16], 1)
		}
	}
	return w
}

// mix is the document's f and k at step t.
func mix(t int, b, c, d uint32) (f, k uint32) {
	switch {
	case t < 20:
		return b&c | ^b&d, 0x5a827999
	case t < 40:
		return b ^ c ^ d, 0x6ed9eba1
	case t < 60:
		return b&c | b&d | c&d, 0x8f1bbcdc
	default:
		return b ^ c ^ d, 0xca62c1d6
	}
}

func word(b []byte) uint32 {
	return uint32(b[0])<<24 | uint32(b[1])<<16 | uint32(b[2])<<8 | uint32(b[3])
}

func (s *state) bytes() [20]byte {
	var out [20]byte
	for n := range out {
		out[n] = byte(s[n/wordBytes] >> (24 - n%wordBytes*8))
	}
	return out
}
