package cipher_test

// slowTimes is P12.1's product: that of the polynomials as a whole, then what is left of it, divided.
func slowTimes(a, b byte) byte {
	var product uint
	for i := range 8 {
		if b>>i&1 == 1 {
			product ^= uint(a) << i
		}
	}
	for degree := 14; degree >= 8; degree-- {
		if product>>degree&1 == 1 {
			product ^= 0x11b << (degree - 8)
		}
	}
	return byte(product)
}

// slowBox is P12.1's box: y is looked for among all bytes, and each bit is made of y's.
func slowBox(x byte) byte {
	var y byte
	for z := range 256 {
		if slowTimes(x, byte(z)) == 1 {
			y = byte(z)
		}
	}
	var answer byte
	for i := range 8 {
		bit := byte(0x63) >> i & 1
		for _, further := range []int{0, 4, 5, 6, 7} {
			bit ^= y >> ((i + further) % 8) & 1
		}
		answer |= bit << i
	}
	return answer
}

func slowBoxes() [256]byte {
	var boxes [256]byte
	for x := range boxes {
		boxes[x] = slowBox(byte(x))
	}
	return boxes
}

// slowRoundKeys is P12.2 word by word.
func slowRoundKeys(boxes *[256]byte, key []byte) [][]byte {
	n := len(key) / 4
	var w [][]byte
	for i := range n {
		w = append(w, append([]byte(nil), key[4*i:4*i+4]...))
	}
	for i := n; i < 4*(n+7); i++ {
		t := append([]byte(nil), w[i-1]...)
		if i%n == 0 {
			t = append(t[1:], t[0])
			for b := range t {
				t[b] = boxes[t[b]]
			}
			power := byte(1)
			for range i/n - 1 {
				power = slowTimes(2, power)
			}
			t[0] ^= power
		}
		if n == 8 && i%8 == 4 {
			for b := range t {
				t[b] = boxes[t[b]]
			}
		}
		for b := range t {
			t[b] ^= w[i-n][b]
		}
		w = append(w, t)
	}
	var keys [][]byte
	for r := range n + 7 {
		var all []byte
		for _, x := range w[4*r : 4*r+4] {
			all = append(all, x...)
		}
		keys = append(keys, all)
	}
	return keys
}

// slowBlock is P12.3 word by word.
func slowBlock(boxes *[256]byte, key []byte, b [16]byte) [16]byte {
	keys := slowRoundKeys(boxes, key)
	last := len(keys) - 1
	for i := range b {
		b[i] ^= keys[0][i]
	}
	for r := 1; r <= last; r++ {
		for i := range b {
			b[i] = boxes[b[i]]
		}
		stood := b
		for c := range 4 {
			for i := range 4 {
				b[4*c+i] = stood[4*((c+i)%4)+i]
			}
		}
		if r < last {
			slowMix(&b)
		}
		for i := range b {
			b[i] ^= keys[r][i]
		}
	}
	return b
}

func slowMix(all *[16]byte) {
	for n := 0; n < 16; n += 4 {
		a, b, c, d := all[n], all[n+1], all[n+2], all[n+3]
		all[n] = slowTimes(2, a) ^ slowTimes(3, b) ^ c ^ d
		all[n+1] = a ^ slowTimes(2, b) ^ slowTimes(3, c) ^ d
		all[n+2] = a ^ b ^ slowTimes(2, c) ^ slowTimes(3, d)
		all[n+3] = slowTimes(3, a) ^ b ^ c ^ slowTimes(2, d)
	}
}
