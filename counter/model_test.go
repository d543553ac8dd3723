package counter_test

import (
	"bytes"
	"crypto/aes"
	"crypto/hmac"
	"crypto/pbkdf2"
	"crypto/sha1"

	"wainload/api"
)

// keyLong and saltLong are the chapter's 'Keys': how many bytes each strength asks for.
var (
	keyLong  = map[int]int{1: 16, 2: 24, 3: 32}
	saltLong = map[int]int{1: 8, 2: 12, 3: 16}
)

// slowStream is P13.1 by Go's own AES: all blocks are laid one behind the other first, then xored; the number is counted up in its 16 bytes.
func slowStream(key, data []byte) []byte {
	c, err := aes.NewCipher(key)
	if err != nil {
		panic(err)
	}
	var row []byte
	var number [16]byte
	for len(row) < len(data) {
		for n := range number {
			number[n]++
			if number[n] != 0 {
				break
			}
		}
		var b [16]byte
		c.Encrypt(b[:], number[:])
		row = append(row, b[:]...)
	}
	told := make([]byte, len(data))
	for n := range data {
		told[n] = data[n] ^ row[n]
	}
	return told
}

// slowKeys are the key, the seal's key and the look.
func slowKeys(strength int, password, salt []byte) (key, seal, look []byte) {
	long := keyLong[strength]
	all, err := pbkdf2.Key(sha1.New, string(password), salt, 1000, 2*long+2)
	if err != nil {
		panic(err)
	}
	return all[:long], all[long : 2*long], all[2*long:]
}

func slowTag(seal, inside []byte) []byte {
	h := hmac.New(sha1.New, seal)
	h.Write(inside)
	return h.Sum(nil)[:10]
}

// slowSeal is P13.2 word by word.
func slowSeal(strength int, password, salt, data []byte) ([]byte, api.Errno) {
	if keyLong[strength] == 0 || len(salt) != saltLong[strength] {
		return nil, api.ErrCounterForm
	}
	key, seal, look := slowKeys(strength, password, salt)
	inside := slowStream(key, data)
	var all []byte
	all = append(all, salt...)
	all = append(all, look...)
	all = append(all, inside...)
	all = append(all, slowTag(seal, inside)...)
	return all, api.OK
}

// slowOpen is P13.3 word by word.
func slowOpen(strength int, password, sealed []byte) ([]byte, api.Errno) {
	if keyLong[strength] == 0 || len(sealed) < saltLong[strength]+2+10 {
		return nil, api.ErrCounterForm
	}
	long, end := saltLong[strength], len(sealed)-10
	key, seal, look := slowKeys(strength, password, sealed[:long])
	if !bytes.Equal(sealed[long:long+2], look) {
		return nil, api.ErrCounterPassword
	}
	inside := sealed[long+2 : end]
	if !bytes.Equal(sealed[end:], slowTag(seal, inside)) {
		return nil, api.ErrCounterTag
	}
	return slowStream(key, inside), api.OK
}
