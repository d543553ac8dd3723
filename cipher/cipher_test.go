package cipher_test

import (
	"bytes"
	"crypto/aes"
	"encoding/hex"
	"math/bits"
	"math/rand"
	"sync"
	"testing"

	"wainload/api"
	"wainload/cipher"
)

var (
	goodLengths  = []int{16, 24, 32}
	wrongLengths = []int{0, 1, 4, 8, 12, 15, 17, 20, 23, 25, 28, 31, 33, 36, 40, 48, 64, 128, 256, 1000}
	// edgeBytes are those beside which a product wraps round, or does nothing.
	edgeBytes = []byte{0, 1, 2, 3, 0x7f, 0x80, 0x81, 0xff}
)

// knownBlocks are those of FIPS 197 (appendices B and C) and of NIST SP 800-38A (F.1).
var knownBlocks = []struct{ key, block, want string }{
	{"000102030405060708090a0b0c0d0e0f", "00112233445566778899aabbccddeeff", "69c4e0d86a7b0430d8cdb78070b4c55a"},
	{"000102030405060708090a0b0c0d0e0f1011121314151617", "00112233445566778899aabbccddeeff", "dda97ca4864cdfe06eaf70a0ec0d7191"},
	{"000102030405060708090a0b0c0d0e0f101112131415161718191a1b1c1d1e1f", "00112233445566778899aabbccddeeff", "8ea2b7ca516745bfeafc49904b496089"},
	{"2b7e151628aed2a6abf7158809cf4f3c", "3243f6a8885a308d313198a2e0370734", "3925841d02dc09fbdc118597196a0b32"},
	{"2b7e151628aed2a6abf7158809cf4f3c", "6bc1bee22e409f96e93d7e117393172a", "3ad77bb40d7a3660a89ecaf32466ef97"},
	{"8e73b0f7da0e6452c810f32b809079e562f8ead2522c6b7b", "6bc1bee22e409f96e93d7e117393172a", "bd334f1d6e45f25ff712a214571fa5cc"},
	{"603deb1015ca71be2b73aef0857d77811f352c073b6108d72d9810a30914dff4", "6bc1bee22e409f96e93d7e117393172a", "f3eed1bdb5d2a03c064b5a7e3db181f8"},
	{"00000000000000000000000000000000", "00000000000000000000000000000000", "66e94bd4ef8a2c3b884cfa59ca342b2e"},
}

func unhex(t *testing.T, text string) []byte {
	t.Helper()
	b, err := hex.DecodeString(text)
	if err != nil {
		t.Fatal(err)
	}
	return b
}

func chanceBytes(r *rand.Rand, many int) []byte {
	b := make([]byte, many)
	r.Read(b)
	return b
}

// mustNew are the round keys of a key that must not be refused.
func mustNew(t *testing.T, key []byte) *cipher.Key {
	t.Helper()
	k, err := cipher.New(key)
	if err != api.OK || k == nil {
		t.Fatalf("P12.2: New of %d bytes: %v, %d; want a key, OK", len(key), k, err)
	}
	return k
}

// edgeBlocks are blocks of like bytes, rising ones, and ones with one bit alone.
func edgeBlocks() [][16]byte {
	var blocks [][16]byte
	for _, x := range edgeBytes {
		blocks = append(blocks, [16]byte(bytes.Repeat([]byte{x}, 16)))
	}
	var rising [16]byte
	for i := range rising {
		rising[i] = byte(i)
	}
	blocks = append(blocks, rising)
	for n := range 128 {
		var b [16]byte
		b[n/8] = 1 << (n % 8)
		blocks = append(blocks, b)
	}
	return blocks
}

// edgeKeys are keys of like bytes, rising ones and some by chance, of all lengths that are allowed.
func edgeKeys() [][]byte {
	r := rand.New(rand.NewSource(12))
	var keys [][]byte
	for _, long := range goodLengths {
		for _, x := range edgeBytes {
			keys = append(keys, bytes.Repeat([]byte{x}, long))
		}
		rising := make([]byte, long)
		for i := range rising {
			rising[i] = byte(i)
		}
		keys = append(keys, rising)
		for range 5 {
			keys = append(keys, chanceBytes(r, long))
		}
	}
	return keys
}

// P12.1: the product of all pairs of bytes is what the chapter's words make.
func TestTimesOfAllPairs(t *testing.T) {
	for a := range 256 {
		for b := range 256 {
			if got, want := cipher.Times(byte(a), byte(b)), slowTimes(byte(a), byte(b)); got != want {
				t.Fatalf("P12.1: Times(%#x, %#x): %#x; want %#x", a, b, got, want)
			}
		}
	}
}

// P12.1: 0, 1, 2, 3, 80 and ff (hexadecimal) on either side.
func TestTimesEdges(t *testing.T) {
	for x := range 256 {
		b := byte(x)
		double := b << 1
		if b >= 0x80 {
			double ^= 0x1b
		}
		for _, c := range []struct{ a, want byte }{{0, 0}, {1, b}, {2, double}, {3, double ^ b}} {
			if got := cipher.Times(c.a, b); got != c.want {
				t.Errorf("P12.1: Times(%#x, %#x): %#x; want %#x", c.a, b, got, c.want)
			}
			if got := cipher.Times(b, c.a); got != c.want {
				t.Errorf("P12.1: Times(%#x, %#x): %#x; want %#x", b, c.a, got, c.want)
			}
		}
	}
	for _, c := range []struct{ a, b, want byte }{
		{0x57, 0x83, 0xc1}, {0x57, 0x13, 0xfe}, {0x57, 0x02, 0xae}, {0x57, 0x10, 0x07},
		{0x80, 2, 0x1b}, {0x80, 3, 0x9b}, {0x80, 0x80, 0x9a}, {0xff, 2, 0xe5}, {0xff, 3, 0x1a}, {0xff, 0xff, 0x13}, {0x53, 0xca, 1},
	} {
		if got := cipher.Times(c.a, c.b); got != c.want {
			t.Errorf("P12.1: Times(%#x, %#x): %#x; want %#x", c.a, c.b, got, c.want)
		}
		if got := cipher.Times(c.b, c.a); got != c.want {
			t.Errorf("P12.1: Times(%#x, %#x): %#x; want %#x", c.b, c.a, got, c.want)
		}
	}
}

// P12.1: the box of all bytes is what the chapter's words make, and no two are the same.
func TestBoxOfAllBytes(t *testing.T) {
	seen := map[byte]int{}
	for x := range 256 {
		got := cipher.Box(byte(x))
		if want := slowBox(byte(x)); got != want {
			t.Errorf("P12.1: Box(%#x): %#x; want %#x", x, got, want)
		}
		if before, ok := seen[got]; ok {
			t.Errorf("P12.1: Box(%#x) and Box(%#x) are both %#x", before, x, got)
		}
		seen[got] = x
	}
	for _, c := range []struct{ x, want byte }{{0, 0x63}, {1, 0x7c}, {0x53, 0xed}, {0x52, 0}, {0x7f, 0xd2}, {0x80, 0xcd}, {0xff, 0x16}} {
		if got := cipher.Box(c.x); got != c.want {
			t.Errorf("P12.1: Box(%#x): %#x; want %#x", c.x, got, c.want)
		}
	}
}

// P12.2: a key of another length is refused, and no round keys are told.
func TestNewRefuses(t *testing.T) {
	for _, long := range wrongLengths {
		if k, err := cipher.New(make([]byte, long)); k != nil || err != api.ErrCipherKey {
			t.Errorf("P12.2: New of %d bytes: %v, %d; want nil, %d", long, k, err, api.ErrCipherKey)
		}
		// Room behind a key is no part of it.
		if k, err := cipher.New(make([]byte, long, long+32)); k != nil || err != api.ErrCipherKey {
			t.Errorf("P12.2: New of %d bytes with room behind: %v, %d; want nil, %d", long, k, err, api.ErrCipherKey)
		}
	}
	if k, err := cipher.New(nil); k != nil || err != api.ErrCipherKey {
		t.Errorf("P12.2: New(nil): %v, %d; want nil, %d", k, err, api.ErrCipherKey)
	}
	if api.ErrCipherKey != 120 {
		t.Errorf("P12.2: ErrCipherKey is %d; want 120", api.ErrCipherKey)
	}
}

// P12.2: just the keys of 16, 24 and 32 bytes are taken.
func TestNewTakes(t *testing.T) {
	for long := range 70 {
		good := long == 16 || long == 24 || long == 32
		k, err := cipher.New(make([]byte, long))
		if (err == api.OK) != good || (k != nil) != good {
			t.Errorf("P12.2: New of %d bytes: %v, %d", long, k, err)
		}
	}
}

// P12.2: each bit of a key counts.
func TestEachBitOfAKey(t *testing.T) {
	b := [16]byte([]byte("sixteen bytes .."))
	for _, long := range goodLengths {
		key := chanceBytes(rand.New(rand.NewSource(3)), long)
		seen := map[[16]byte]int{mustNew(t, key).Block(b): -1}
		for bit := range 8 * long {
			other := bytes.Clone(key)
			other[bit/8] ^= 1 << (bit % 8)
			c := mustNew(t, other).Block(b)
			if before, ok := seen[c]; ok {
				t.Errorf("P12.2: keys of %d bytes with the bits %d and %d changed make the same of a block", long, before, bit)
			}
			seen[c] = bit
		}
	}
}

// P12.3: what is known of others' tables.
func TestKnownBlocks(t *testing.T) {
	for _, c := range knownBlocks {
		k := mustNew(t, unhex(t, c.key))
		got := k.Block([16]byte(unhex(t, c.block)))
		if hex.EncodeToString(got[:]) != c.want {
			t.Errorf("P12.3: key %s, block %s: %x; want %s", c.key, c.block, got, c.want)
		}
	}
}

// P12.2, P12.3: the chapter's words, and Go's own AES, make the same of edges and of chance.
func TestBlocksAgainstOthers(t *testing.T) {
	boxes := slowBoxes()
	r := rand.New(rand.NewSource(1))
	for _, key := range edgeKeys() {
		k := mustNew(t, key)
		other, err := aes.NewCipher(key)
		if err != nil {
			t.Fatal(err)
		}
		blocks := edgeBlocks()
		for range 50 {
			blocks = append(blocks, [16]byte(chanceBytes(r, 16)))
		}
		for n, b := range blocks {
			got := k.Block(b)
			var want [16]byte
			other.Encrypt(want[:], b[:])
			if got != want {
				t.Fatalf("P12.3: key %x, block %x: %x; want %x", key, b, got, want)
			}
			if n%16 == 0 && got != slowBlock(&boxes, key, b) {
				t.Fatalf("P12.3: key %x, block %x: %x; the chapter's words make %x", key, b, got, slowBlock(&boxes, key, b))
			}
		}
	}
}

// P12.3: a row of blocks, each the one before it encrypted, comes where Go's own AES comes.
func TestBlocksInARow(t *testing.T) {
	for _, long := range goodLengths {
		key := chanceBytes(rand.New(rand.NewSource(int64(long))), long)
		k := mustNew(t, key)
		other, err := aes.NewCipher(key)
		if err != nil {
			t.Fatal(err)
		}
		var got, want [16]byte
		for range 5000 {
			got = k.Block(got)
			other.Encrypt(want[:], want[:])
		}
		if got != want {
			t.Errorf("P12.3: a row of blocks under a key of %d bytes ends with %x; want %x", long, got, want)
		}
	}
}

// P12.4: unlike blocks become unlike blocks; what is decrypted by Go's own AES is what it was.
func TestUnlikeBlocks(t *testing.T) {
	r := rand.New(rand.NewSource(2))
	for _, key := range edgeKeys() {
		k := mustNew(t, key)
		other, err := aes.NewCipher(key)
		if err != nil {
			t.Fatal(err)
		}
		blocks := edgeBlocks()
		for range 100 {
			b := [16]byte(chanceBytes(r, 16))
			near := b
			near[r.Intn(16)] ^= 1 << r.Intn(8)
			blocks = append(blocks, b, near)
		}
		from := map[[16]byte][16]byte{}
		for _, b := range blocks {
			c := k.Block(b)
			if before, ok := from[c]; ok && before != b {
				t.Fatalf("P12.4: key %x: %x and %x both become %x", key, before, b, c)
			}
			from[c] = b
			var back [16]byte
			other.Decrypt(back[:], c[:])
			if back != b {
				t.Fatalf("P12.4: key %x: %x becomes %x, which is %x", key, b, c, back)
			}
		}
	}
}

// P12.4: blocks that differ in one bit alone become ones that differ in many.
func TestOneBit(t *testing.T) {
	for _, long := range goodLengths {
		k := mustNew(t, make([]byte, long))
		for _, b := range edgeBlocks() {
			whole := k.Block(b)
			for bit := range 128 {
				near := b
				near[bit/8] ^= 1 << (bit % 8)
				c := k.Block(near)
				many := 0
				for i := range c {
					many += bits.OnesCount8(c[i] ^ whole[i])
				}
				if many < 20 {
					t.Fatalf("P12.4: key of %d bytes: %x and %x become %x and %x", long, b, near, whole, c)
				}
			}
		}
	}
}

// P12.4: Times does not hang on the order, and spreads over xor.
func TestTimesLaws(t *testing.T) {
	for a := range 256 {
		for b := range 256 {
			ab := cipher.Times(byte(a), byte(b))
			if ba := cipher.Times(byte(b), byte(a)); ab != ba {
				t.Fatalf("P12.4: Times(%#x, %#x) is %#x, the other way round %#x", a, b, ab, ba)
			}
			for c := 0; c < 256; c += 5 {
				if got, want := cipher.Times(byte(a), byte(b^c)), ab^cipher.Times(byte(a), byte(c)); got != want {
					t.Fatalf("P12.4: Times(%#x, %#x xor %#x): %#x; want %#x", a, b, c, got, want)
				}
				if got, want := cipher.Times(byte(b^c), byte(a)), ab^cipher.Times(byte(c), byte(a)); got != want {
					t.Fatalf("P12.4: Times(%#x xor %#x, %#x): %#x; want %#x", b, c, a, got, want)
				}
			}
		}
	}
}

// P12.2, R5: the key stays as it was, with the room behind it; to write into it later changes nothing.
func TestKeyIsCopied(t *testing.T) {
	for _, long := range goodLengths {
		room := chanceBytes(rand.New(rand.NewSource(7)), 64)
		before := bytes.Clone(room)
		k := mustNew(t, room[:long])
		b := [16]byte([]byte("a block of bytes"))
		want := k.Block(b)
		if !bytes.Equal(room, before) {
			t.Errorf("R5: New of %d bytes changed what it was given", long)
		}
		for i := range room {
			room[i] ^= 0xff
		}
		if got := k.Block(b); got != want {
			t.Errorf("P12.2: key of %d bytes, written into later: %x; want %x", long, got, want)
		}
		if got := mustNew(t, before[:long]).Block(b); got != want {
			t.Errorf("R7: key of %d bytes, made again: %x; want %x", long, got, want)
		}
	}
}

// P12.3, R5, R7: a block stays as it was, and the same one always becomes the same.
func TestBlockChangesNothing(t *testing.T) {
	for _, key := range edgeKeys() {
		k := mustNew(t, key)
		b := [16]byte([]byte("a block of bytes"))
		before := b
		want := k.Block(b)
		if b != before {
			t.Fatalf("R5: a block was %x, and is %x", before, b)
		}
		for _, x := range edgeBlocks() {
			k.Block(x)
		}
		if got := k.Block(b); got != want {
			t.Fatalf("R7: key %x: a block became %x, and then %x", key, want, got)
		}
	}
}

// R6: two keys have nothing in common, and what one told is the caller's own.
func TestKeysOfTheirOwn(t *testing.T) {
	b := [16]byte([]byte("a block of bytes"))
	key := make([]byte, 32)
	short := mustNew(t, key[:16])
	want := short.Block(b)
	long := mustNew(t, key)
	if long.Block(b) == want {
		t.Error("P12.2: keys of 16 and of 32 bytes 0 make the same")
	}
	if got := short.Block(b); got != want {
		t.Errorf("R6: a key made later changed %x to %x", want, got)
	}
	got := short.Block(b)
	got[0] ^= 1
	if short.Block(b) != want {
		t.Error("R6: to write into a block changed the key")
	}
}

// R7: several may ask one key at the same time, as nothing is written by it.
func TestSeveralAtOnce(t *testing.T) {
	k := mustNew(t, []byte("sixteen bytes .."))
	var b [16]byte
	want := k.Block(b)
	var group sync.WaitGroup
	var told [8][16]byte
	for n := range told {
		group.Add(1)
		go func() {
			defer group.Done()
			for range 100 {
				told[n] = k.Block(b)
			}
		}()
	}
	group.Wait()
	for _, got := range told {
		if got != want {
			t.Errorf("R7: %x; want %x", got, want)
		}
	}
}

func BenchmarkBlock(b *testing.B) {
	k, _ := cipher.New(make([]byte, 32))
	var x [16]byte
	b.SetBytes(16)
	for range b.N {
		x = k.Block(x)
	}
}
