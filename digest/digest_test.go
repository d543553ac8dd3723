package digest_test

import (
	"bytes"
	"crypto/sha1"
	"encoding/hex"
	"fmt"
	"math/rand"
	"slices"
	"strings"
	"testing"

	"wainload/digest"
)

const ofNothing = "da39a3ee5e6b4b0d3255bfef95601890afd80709"

// edges are the lengths at which a block, or the room for a message's end, is just full, and those beside them.
var edges = []int{0, 1, 54, 55, 56, 57, 63, 64, 65, 118, 119, 120, 127, 128, 129}

// known are sums as FIPS 180 and its examples have them, and others that stand in books.
var known = map[string]string{
	"":    ofNothing,
	"abc": "a9993e364706816aba3e25717850c26c9cd0d89d",
	"a":   "86f7e437faa5a7fce15d1ddcb9eaeaea377667b8",
	"The quick brown fox jumps over the lazy dog":                                                                      "2fd4e1c67a2d28fced849ee1bb76e7391b93eb12",
	"The quick brown fox jumps over the lazy cog":                                                                      "de9f2c7fd25e1b3afad3e85a0bd17d9b100db4b3",
	"abcdbcdecdefdefgefghfghighijhijkijkljklmklmnlmnomnopnopq":                                                         "84983e441c3bd26ebaae4aa1f95129e5e54670f1",
	"abcdefghbcdefghicdefghijdefghijkefghijklfghijklmghijklmnhijklmnoijklmnopjklmnopqklmnopqrlmnopqrsmnopqrstnopqrstu": "a49b2446a02c645bf419f995b67091253a04a259",
	strings.Repeat("01234567", 80):                                                                                     "dea356a2cddd90c7a7ecedc5ebb563934f460452",
	strings.Repeat("a", 1_000_000):                                                                                     "34aa973cd4c4daa4f61eeb2bdbad27316534016f",
}

func wantSum(t *testing.T, promise, what string, got, want [20]byte) {
	t.Helper()
	if got != want {
		t.Errorf("%s: %s: %x; want %x", promise, what, got, want)
	}
}

func wantHex(t *testing.T, promise, what string, got [20]byte, want string) {
	t.Helper()
	if hex.EncodeToString(got[:]) != want {
		t.Errorf("%s: %s: %x; want %s", promise, what, got, want)
	}
}

func chanceBytes(r *rand.Rand, many int) []byte {
	b := make([]byte, many)
	r.Read(b)
	return b
}

// writePieces writes b in pieces of the lengths that next tells, as long as there is some of it.
func writePieces(h *digest.Hash, b []byte, next func() int) {
	for len(b) > 0 {
		n := min(next(), len(b))
		h.Write(b[:n])
		b = b[n:]
	}
}

func always(n int) func() int { return func() int { return n } }

func TestSumsOfKnownTexts(t *testing.T) { // P10.1, the chapter's examples among them
	for s, want := range known {
		wantHex(t, "P10.1", fmt.Sprintf("Sum of %.20q", s), digest.Sum([]byte(s)), want)
	}
	wantHex(t, "P10.1", "Sum of nil", digest.Sum(nil), ofNothing)
	wantHex(t, "P10.1", "Sum of no bytes", digest.Sum([]byte{}), ofNothing)
}

func TestSumAtTheEdgesOfBlocks(t *testing.T) { // P10.1
	r := rand.New(rand.NewSource(101))
	for _, many := range edges {
		for _, x := range []byte{0, 1, 127, 128, 129, 255} {
			b := bytes.Repeat([]byte{x}, many)
			wantSum(t, "P10.1", fmt.Sprint(many, " bytes ", x), digest.Sum(b), slowSum(b))
		}
		b := chanceBytes(r, many)
		wantSum(t, "P10.1", fmt.Sprint(many, " bytes"), digest.Sum(b), slowSum(b))
	}
}

func TestSumsAtTheEdgesAreKnown(t *testing.T) { // P10.1
	for many, want := range map[int]string{
		55:  "c1c8bbdc22796e28c0e15163d20899b65621d65a",
		56:  "c2db330f6083854c99d4b5bfb6e8f29f201be699",
		63:  "03f09f5b158a7a8cdad920bddc29b81c18a551f5",
		64:  "0098ba824b5c16427bd7a1122a5a442a25ec644d",
		65:  "11655326c708d70319be2610e8a57d9a5b959d3b",
		119: "ee971065aaa017e0632a8ca6c77bb3bf8b1dfc56",
		120: "f34c1488385346a55709ba056ddd08280dd4c6d6",
		128: "ad5b3fdbcb526778c2839d2f151ea753995e26a0",
	} {
		b := bytes.Repeat([]byte("a"), many)
		wantHex(t, "P10.1", fmt.Sprint(many, " letters a"), digest.Sum(b), want)
	}
}

func TestSumOfEachSingleByte(t *testing.T) { // P10.1
	seen := map[[20]byte]int{}
	for n := range 256 {
		b := []byte{byte(n)}
		got := digest.Sum(b)
		wantSum(t, "P10.1", fmt.Sprint("the byte ", n), got, slowSum(b))
		if m, is := seen[got]; is {
			t.Errorf("P10.1: the bytes %d and %d have one sum", m, n)
		}
		seen[got] = n
	}
}

func TestSumOfEveryLengthOfSomeBlocks(t *testing.T) { // P10.1
	b := chanceBytes(rand.New(rand.NewSource(102)), 400)
	for many := range len(b) + 1 {
		got := digest.Sum(b[:many])
		wantSum(t, "P10.1", fmt.Sprint(many, " bytes, by the words"), got, slowSum(b[:many]))
		wantSum(t, "P10.1", fmt.Sprint(many, " bytes, by crypto/sha1"), got, sha1.Sum(b[:many]))
	}
}

func TestSumOfManyBlocks(t *testing.T) { // P10.1
	r := rand.New(rand.NewSource(103))
	for _, many := range []int{8191, 8192, 8193, 65535, 65536, 1<<20 + 3} {
		b := chanceBytes(r, many)
		wantSum(t, "P10.1", fmt.Sprint(many, " bytes"), digest.Sum(b), sha1.Sum(b))
	}
}

func TestSumOfMoreBitsThanAWordCounts(t *testing.T) { // P10.1, P10.2
	t.Parallel()
	piece := chanceBytes(rand.New(rand.NewSource(104)), 1<<20)
	h, like := digest.New(), sha1.New()
	for range 1 << 9 {
		h.Write(piece)
		like.Write(piece)
	}
	wantSum(t, "P10.1", "2^32 bits", h.Sum(), [20]byte(like.Sum(nil)))
	h.Write([]byte("more"))
	like.Write([]byte("more"))
	wantSum(t, "P10.1", "more than 2^32 bits", h.Sum(), [20]byte(like.Sum(nil)))
}

func TestBytesOfAMessagesEndAreToldFromThoseOfAText(t *testing.T) { // P10.1
	for _, many := range edges {
		b := bytes.Repeat([]byte("x"), many)
		was := digest.Sum(b)
		for what, end := range map[string][]byte{
			"a byte 0":               {0},
			"a byte 128":             {128},
			"what its message has":   message(b)[many:],
			"its message's, but one": message(b)[many : len(message(b))-1],
		} {
			if longer := append(slices.Clone(b), end...); digest.Sum(longer) == was {
				t.Errorf("P10.1: %d bytes have the sum of themselves and %s", many, what)
			}
		}
	}
}

func TestHashToWhichNothingWasWritten(t *testing.T) { // P10.2
	h := digest.New()
	wantHex(t, "P10.2", "a new hash", h.Sum(), ofNothing)
	wantHex(t, "P10.2", "a new hash, asked again", h.Sum(), ofNothing)
	h.Write(nil)
	wantHex(t, "P10.2", "a hash with nil written", h.Sum(), ofNothing)
	h.Write([]byte{})
	wantHex(t, "P10.2", "a hash with no bytes written", h.Sum(), ofNothing)
	h.Write([]byte("abc"))
	wantHex(t, "P10.2", "abc behind it", h.Sum(), known["abc"])
}

func TestWritingNoBytesIsNotSeen(t *testing.T) { // P10.2
	b := chanceBytes(rand.New(rand.NewSource(105)), 129)
	for _, many := range edges {
		for _, first := range edges {
			for what, none := range map[string][]byte{"nil": nil, "no bytes": {}, "no bytes of some": b[:0]} {
				first := min(first, many)
				h := digest.New()
				h.Write(none)
				h.Write(b[:first])
				h.Write(none)
				h.Write(none)
				h.Write(b[first:many])
				h.Write(none)
				wantSum(t, "P10.2", fmt.Sprint(what, " around ", first, " bytes of ", many), h.Sum(), slowSum(b[:many]))
			}
		}
	}
}

func TestWriteComesBehindAllThatWasWritten(t *testing.T) { // P10.2
	for s, want := range known {
		h := digest.New()
		h.Write([]byte(s[:len(s)/3]))
		h.Write([]byte(s[len(s)/3:]))
		wantHex(t, "P10.2", fmt.Sprintf("%.20q in two pieces", s), h.Sum(), want)
	}
	h := digest.New()
	h.Write([]byte("c"))
	h.Write([]byte("ab"))
	wantSum(t, "P10.2", "c, ab", h.Sum(), slowSum([]byte("cab")))
}

func TestSumMayBeAskedAtEachPlace(t *testing.T) { // P10.2
	b := chanceBytes(rand.New(rand.NewSource(106)), 300)
	asked, silent := digest.New(), digest.New()
	for n := range b {
		for range 3 {
			wantSum(t, "P10.2", fmt.Sprint("behind ", n, " bytes"), asked.Sum(), slowSum(b[:n]))
		}
		asked.Write(b[n : n+1])
		silent.Write(b[n : n+1])
	}
	wantSum(t, "P10.2", "of all, asked in between", asked.Sum(), slowSum(b))
	wantSum(t, "P10.2", "of all, never asked", silent.Sum(), slowSum(b))
}

func TestHashGoesOnFromEachEdgeAsIfItHadNotBeenAsked(t *testing.T) { // P10.2
	b := chanceBytes(rand.New(rand.NewSource(107)), 258)
	for _, first := range edges {
		for _, more := range edges {
			h := digest.New()
			h.Write(b[:first])
			wantSum(t, "P10.2", fmt.Sprint(first, " bytes"), h.Sum(), slowSum(b[:first]))
			h.Sum()
			h.Write(b[first : first+more])
			wantSum(t, "P10.2", fmt.Sprint(first, " bytes, and ", more), h.Sum(), slowSum(b[:first+more]))
		}
	}
}

func TestWhatWasWrittenIsCopied(t *testing.T) { // P10.2, R6
	b := chanceBytes(rand.New(rand.NewSource(108)), 200)
	for many := range len(b) + 1 {
		given := slices.Clone(b[:many])
		h := digest.New()
		h.Write(given)
		for n := range given {
			given[n] ^= 255
		}
		wantSum(t, "P10.2", fmt.Sprint(many, " bytes, changed behind Write"), h.Sum(), slowSum(b[:many]))
	}
	// One piece of memory, filled again and again.
	h := digest.New()
	room := make([]byte, 7)
	for rest := b; len(rest) > 0; {
		n := copy(room, rest)
		h.Write(room[:n])
		rest = rest[n:]
	}
	clear(room)
	wantSum(t, "P10.2", "pieces out of one room", h.Sum(), slowSum(b))
}

func TestWhatIsGivenStaysAsItWas(t *testing.T) { // P10.1, P10.2, R5
	whole := chanceBytes(rand.New(rand.NewSource(109)), 400)
	was := slices.Clone(whole)
	for _, many := range edges {
		given := whole[10 : 10+many] // there is room behind it that isn't digest's either
		for range 2 {
			wantSum(t, "P10.1", fmt.Sprint(many, " bytes of more"), digest.Sum(given), slowSum(was[10:10+many]))
		}
		h := digest.New()
		h.Write(given)
		h.Write(given)
		h.Sum()
		if !bytes.Equal(whole, was) {
			t.Fatalf("R5: the sum of %d bytes changed them, or what lies beside them", many)
		}
	}
}

func TestWhatIsToldIsTheCallersOwn(t *testing.T) { // P10.1, P10.2, R6
	h := digest.New()
	h.Write([]byte("abc"))
	one, two := h.Sum(), digest.Sum([]byte("abc"))
	clear(one[:])
	clear(two[:])
	wantHex(t, "P10.2", "a sum, behind one that was written into", h.Sum(), known["abc"])
	wantHex(t, "P10.1", "a sum, behind one that was written into", digest.Sum([]byte("abc")), known["abc"])
	wantHex(t, "P10.2", "a new hash, behind it", digest.New().Sum(), ofNothing)
}

func TestHashesDoNotMeetEachOther(t *testing.T) { // P10.2
	r := rand.New(rand.NewSource(110))
	var hashes [5]*digest.Hash
	var texts [5][]byte
	for n := range hashes {
		hashes[n] = digest.New()
	}
	for range 400 {
		n := r.Intn(len(hashes))
		piece := chanceBytes(r, r.Intn(130))
		hashes[n].Write(piece)
		texts[n] = append(texts[n], piece...)
		digest.Sum(piece) // that of bytes meets none of them either
		m := r.Intn(len(hashes))
		wantSum(t, "P10.2", "one of several hashes", hashes[m].Sum(), sha1.Sum(texts[m]))
	}
	for n, h := range hashes {
		wantSum(t, "P10.2", "each of several hashes", h.Sum(), slowSum(texts[n]))
	}
	wantHex(t, "P10.2", "a new hash, behind them", digest.New().Sum(), ofNothing)
}

func TestPiecesOfOneLengthAreNotSeen(t *testing.T) { // P10.3
	b := chanceBytes(rand.New(rand.NewSource(111)), 64*13+5)
	for _, many := range append(slices.Clone(edges), 640, 64*13, len(b)) {
		for _, long := range []int{1, 2, 3, 7, 31, 32, 33, 55, 56, 62, 63, 64, 65, 66, 127, 128, 129, 1000} {
			h := digest.New()
			writePieces(h, b[:many], always(long))
			wantSum(t, "P10.3", fmt.Sprint(many, " bytes in pieces of ", long), h.Sum(), digest.Sum(b[:many]))
			wantSum(t, "P10.3", fmt.Sprint(many, " bytes in pieces of ", long, ", asked again"), h.Sum(), slowSum(b[:many]))
		}
	}
}

func TestEveryCutInTwoIsNotSeen(t *testing.T) { // P10.3
	b := chanceBytes(rand.New(rand.NewSource(112)), 200)
	for _, many := range append(slices.Clone(edges), len(b)) {
		want := digest.Sum(b[:many])
		for cut := range many + 1 {
			h := digest.New()
			h.Write(b[:cut])
			h.Write(b[cut:many])
			wantSum(t, "P10.3", fmt.Sprint(many, " bytes, cut at ", cut), h.Sum(), want)
		}
	}
}

func TestPiecesThatEndWhereABlockEndsAreNotSeen(t *testing.T) { // P10.3
	b := chanceBytes(rand.New(rand.NewSource(113)), 64*6)
	for first := 0; first <= 64; first++ {
		for blocks := 1; blocks <= 5; blocks++ {
			h := digest.New()
			h.Write(b[:first])
			h.Write(b[first : 64*blocks])
			what := fmt.Sprint(first, " bytes, and up to the end of block ", blocks)
			wantSum(t, "P10.3", what, h.Sum(), slowSum(b[:64*blocks]))
			h.Write(b[64*blocks:])
			wantSum(t, "P10.3", what+", and the rest", h.Sum(), slowSum(b))
		}
	}
}

func TestPiecesOfAnyLengthAreNotSeen(t *testing.T) { // P10.3
	r := rand.New(rand.NewSource(114))
	for range 300 {
		b := chanceBytes(r, r.Intn(2000))
		most := 1 + r.Intn(300)
		h, asked := digest.New(), digest.New()
		writePieces(h, b, func() int { return r.Intn(most) + r.Intn(2) })
		writePieces(asked, b, func() int { asked.Sum(); return r.Intn(most) + r.Intn(2) })
		want := digest.Sum(b)
		wantSum(t, "P10.3", fmt.Sprint(len(b), " bytes in pieces of up to ", most), h.Sum(), want)
		wantSum(t, "P10.3", fmt.Sprint(len(b), " bytes in pieces of up to ", most, ", asked in between"), asked.Sum(), want)
		wantSum(t, "P10.1", fmt.Sprint(len(b), " bytes"), want, sha1.Sum(b))
	}
}
