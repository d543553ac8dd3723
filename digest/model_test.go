package digest_test

// message is P10.1's message of b, whole.
func message(b []byte) []byte {
	m := append(append([]byte(nil), b...), 128)
	for (len(m)+8)%64 != 0 {
		m = append(m, 0)
	}
	long := 8 * uint64(len(b))
	for shift := 56; shift >= 0; shift -= 8 {
		m = append(m, byte(long>>shift))
	}
	return m
}

func left(w uint32, n int) uint32 { return w<<n | w>>(32-n) }

// slowSum is P10.1 word by word, without pieces.
func slowSum(text []byte) [20]byte {
	state := []uint32{0x67452301, 0xefcdab89, 0x98badcfe, 0x10325476, 0xc3d2e1f0}
	for m := message(text); len(m) > 0; m = m[64:] {
		a, b, c, d, e := state[0], state[1], state[2], state[3], state[4]
		for t, w := range slowWords(m[:64]) {
			var f, k uint32
			if t < 20 {
				f, k = (b&c)|((^b)&d), 0x5a827999
			} else if t < 40 {
				f, k = b^c^d, 0x6ed9eba1
			} else if t < 60 {
				f, k = (b&c)|(b&d)|(c&d), 0x8f1bbcdc
			} else {
				f, k = b^c^d, 0xca62c1d6
			}
			x := left(a, 5) + f + e + k + w
			e = d
			d = c
			c = left(b, 30)
			b = a
			a = x
		}
		for n, v := range []uint32{a, b, c, d, e} {
			state[n] += v
		}
	}
	var out [20]byte
	for n, v := range state {
		out[4*n], out[4*n+1], out[4*n+2], out[4*n+3] = byte(v>>24), byte(v>>16), byte(v>>8), byte(v)
	}
	return out
}

func slowWords(block []byte) []uint32 {
	var w []uint32
	for t := range 80 {
		if t < 16 {
			w = append(w, uint32(block[4*t])<<24|uint32(block[4*t+1])<<16|uint32(block[4*t+2])<<8|uint32(block[4*t+3]))
		} else {
			w = append(w, left(w[t-3]^w[t-8]^w[t-14]^w[t-16], 1))
		}
	}
	return w
}
