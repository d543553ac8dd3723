package mac_test

import "crypto/sha1"

// slowMac is P11.1 word by word: k is made whole, and both texts are laid out as one list each.
func slowMac(key, b []byte) [20]byte {
	var k []byte
	k = append(k, key...)
	if len(k) > 64 {
		d := sha1.Sum(k)
		k = d[:]
	}
	for len(k) < 64 {
		k = append(k, 0)
	}
	var outer, inner []byte
	for _, x := range k {
		outer = append(outer, x^0x5c)
		inner = append(inner, x^0x36)
	}
	inside := sha1.Sum(append(inner, b...))
	return sha1.Sum(append(outer, inside[:]...))
}

// slowPart is P11.3's T(i): all its U are made first, then xored.
func slowPart(password, salt []byte, rounds int, i uint32) []byte {
	var us [][20]byte
	text := append(append([]byte(nil), salt...), byte(i>>24), byte(i>>16), byte(i>>8), byte(i))
	for len(us) < rounds {
		us = append(us, slowMac(password, text))
		last := us[len(us)-1]
		text = last[:]
	}
	t := make([]byte, 20)
	for _, u := range us {
		for n, x := range u {
			t[n] ^= x
		}
	}
	return t
}

// slowKey is P11.3 for rounds and long that are allowed: whole T until they are enough, cut.
func slowKey(password, salt []byte, rounds, long int) []byte {
	var all []byte
	for i := uint32(1); len(all) < long; i++ {
		all = append(all, slowPart(password, salt, rounds, i)...)
	}
	return all[:long]
}
