package names_test

import (
	"strings"

	"wainload/api"
)

// upperLetters are those of the bytes from 128 on, as other programs have them (code page 437).
const upperLetters = "ÇüéâäàåçêëèïîìÄÅ" +
	"ÉæÆôöòûùÿÖÜ¢£¥₧ƒ" +
	"áíóúñÑªº¿⌐¬½¼¡«»" +
	"░▒▓│┤╡╢╖╕╣║╗╝╜╛┐" +
	"└┴┬├─┼╞╟╚╔╩╦╠═╬╧" +
	"╨╤╥╙╘╒╓╫╪┘┌█▄▌▐▀" +
	"αßΓπΣσµτΦΘΩδ∞φε∩" +
	"≡±≥≤⌠⌡÷≈°∙·√ⁿ²■\u00a0"

// letterOf has the letter of each byte, byteOf the byte of each letter.
var letterOf, byteOf = bothWays()

func bothWays() (letters [256]rune, back map[rune]byte) {
	upper := []rune(upperLetters)
	back = map[rune]byte{}
	for n := range letters {
		letters[n] = rune(n)
		if n >= 128 {
			letters[n] = upper[n-128]
		}
		back[letters[n]] = byte(n)
	}
	return letters, back
}

// mostOf is what a letter of 1, 2, 3, .. bytes may hold at most, by the bits that its bytes leave for it.
var mostOf = [...]int{0, 1<<7 - 1, 1<<11 - 1, 1<<16 - 1, 1<<21 - 1, 1<<26 - 1, 1<<31 - 1}

// spelt is a letter in so many bytes (1 to 6), in the way of UTF-8, whether it need be so many or not, and whatever letter it is.
func spelt(letter, long int) string {
	if long == 1 {
		return string([]byte{byte(letter)})
	}
	b := make([]byte, long)
	for n := long - 1; n > 0; n-- {
		b[n] = byte(0x80 | letter&0x3f)
		letter >>= 6
	}
	b[0] = byte(0xff)<<(8-long) | byte(letter)
	return string(b)
}

// shortest is how many bytes a letter need be.
func shortest(letter int) int {
	long := 1
	for letter > mostOf[long] {
		long++
	}
	return long
}

// isLetter is P14.1 of a number: up to 10ffff, and no surrogate.
func isLetter(letter int) bool {
	return letter <= 0x10ffff && (letter < 0xd800 || letter > 0xdfff)
}

// slowValid is P14.1 word by word: each letter is read from the bits of its bytes, and then it is asked whether these are the ones in which it is spelt.
func slowValid(s string) bool {
	for s != "" {
		letter, long := slowLetter(s)
		if long == 0 || long != shortest(letter) || !isLetter(letter) {
			return false
		}
		s = s[long:]
	}
	return true
}

// slowLetter is the letter that s begins with, and of how many bytes it is; of 0 bytes, if it is none.
func slowLetter(s string) (letter, long int) {
	if s[0] < 0x80 {
		return int(s[0]), 1
	}
	for s[0]<<long >= 0x80 { // so many bits are set ahead of the first that is not
		long++
	}
	if long < 2 || long > 6 || long > len(s) {
		return 0, 0
	}
	letter = int(s[0]) & (0x7f >> long)
	for _, x := range []byte(s[1:long]) {
		if x&0xc0 != 0x80 {
			return 0, 0
		}
		letter = letter<<6 | int(x&0x3f)
	}
	return letter, long
}

// slowClean is P14.2 word by word.
func slowClean(path string) (string, api.Errno) {
	var parts []string
	for _, part := range strings.Split(path, "/") {
		if part == ".." {
			return "", api.ErrNameForm
		}
		if part != "" && part != "." {
			parts = append(parts, part)
		}
	}
	left := strings.Join(parts, "/")
	if !slowValid(path) || strings.IndexByte(path, 0) >= 0 || path != "" && path[0] == '/' || len(parts) == 0 || len(left) > 200 {
		return "", api.ErrNameForm
	}
	return left, api.OK
}

// slowParents is P14.3 word by word, from the last slash on back.
func slowParents(path string) []string {
	at := strings.LastIndexByte(path, '/')
	if at < 0 {
		return nil
	}
	return append(slowParents(path[:at]), path[:at])
}

// slowFromOem is P14.4 word by word.
func slowFromOem(b string) string {
	var letters []string
	for _, x := range []byte(b) {
		letters = append(letters, spelt(int(letterOf[x]), shortest(int(letterOf[x]))))
	}
	return strings.Join(letters, "")
}

// slowToOem is P14.4 word by word.
func slowToOem(s string) (string, bool) {
	if !slowValid(s) {
		return "", false
	}
	var b []byte
	for s != "" {
		letter, long := slowLetter(s)
		x, is := byteOf[rune(letter)]
		if !is {
			return "", false
		}
		b = append(b, x)
		s = s[long:]
	}
	return string(b), true
}
