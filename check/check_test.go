package check_test

import (
	"bytes"
	"hash/crc32"
	"math"
	"math/rand"
	"slices"
	"testing"

	"wainload/check"
)

// numbers are sums to go on from, with the edges among them.
var numbers = []uint32{0, 1, 2, 0x80000000, 0x7fffffff, 0xfffffffe, 0xffffffff, 0xedb88320, 0xcbf43926, 0xff, 0xff000000}

// steps are the document's steps, done one by one.
func steps(c uint32, many int) uint32 {
	for range many {
		out := c & 1
		c >>= 1
		if out == 1 {
			c ^= 0xedb88320
		}
	}
	return c
}

// slowMore is P2.2 word by word, without a table.
func slowMore(c uint32, b []byte) uint32 {
	c ^= 0xffffffff
	for _, x := range b {
		c = steps(c^uint32(x), 8)
	}
	return c ^ 0xffffffff
}

func slowJoin(a, b uint32, long int) uint32 {
	if long > 0 {
		a = steps(a, 8*long)
	}
	return a ^ b
}

func wantSum(t *testing.T, promise, what string, got, want uint32) {
	t.Helper()
	if got != want {
		t.Errorf("%s: %s = %08x; want %08x", promise, what, got, want)
	}
}

func chanceBytes(r *rand.Rand, many int) []byte {
	b := make([]byte, many)
	r.Read(b)
	return b
}

func TestMakeHasAtEachPlaceItsEightSteps(t *testing.T) { // P2.1
	x := check.Make()
	for n := range 256 {
		wantSum(t, "P2.1", "a place", x[n], steps(uint32(n), 8))
	}
	for n, want := range map[int]uint32{0: 0, 1: 0x77073096, 2: 0xee0e612c, 128: 0xedb88320, 255: 0x2d02ef8d} {
		wantSum(t, "P2.1", "a known place", x[n], want)
	}
}

func TestTablesAreTheCallersOwn(t *testing.T) { // P2.1, R6
	x := check.Make()
	clear(x[:])
	if check.Make() == x {
		t.Error("P2.1: what is written into a table is in the next one")
	}
	y := check.Make()
	wantSum(t, "P2.1", "Sum by the next table", y.Sum([]byte("123456789")), 0xcbf43926)
}

func TestSumsOfKnownTexts(t *testing.T) { // P2.2
	x := check.Make()
	known := map[string]uint32{
		"":                 0,
		"a":                0xe8b7be43,
		"123456789":        0xcbf43926,
		"\x00":             0xd202ef8d,
		"\xff":             0xff000000,
		"\x00\x00\x00\x00": 0x2144df1c,
		"\xff\xff\xff\xff": 0xffffffff,
		"The quick brown fox jumps over the lazy dog": 0x414fa339,
	}
	for s, want := range known {
		wantSum(t, "P2.2", "Sum of a known text", x.Sum([]byte(s)), want)
	}
	wantSum(t, "P2.2", "Sum of nil", x.Sum(nil), 0)
}

func TestSumOfEachSingleByte(t *testing.T) { // P2.2
	x := check.Make()
	for n := range 256 {
		b := []byte{byte(n)}
		wantSum(t, "P2.2", "Sum of one byte", x.Sum(b), slowMore(0, b))
		for _, c := range numbers {
			wantSum(t, "P2.2", "More of one byte", x.More(c, b), slowMore(c, b))
		}
	}
}

func TestMoreOfNoBytesIsTheNumberItself(t *testing.T) { // P2.2
	x := check.Make()
	for _, c := range numbers {
		wantSum(t, "P2.2", "More of nil", x.More(c, nil), c)
		wantSum(t, "P2.2", "More of no bytes", x.More(c, []byte{}), c)
	}
}

func TestMoreGoesOnFromAnyNumber(t *testing.T) { // P2.2
	x := check.Make()
	r := rand.New(rand.NewSource(22))
	for many := range 70 {
		b := chanceBytes(r, many)
		for _, c := range append(slices.Clone(numbers), r.Uint32(), r.Uint32()) {
			wantSum(t, "P2.2", "More", x.More(c, b), slowMore(c, b))
		}
		wantSum(t, "P2.2", "Sum", x.Sum(b), x.More(0, b))
	}
}

func TestSumOfALongText(t *testing.T) { // P2.2
	x := check.Make()
	b := chanceBytes(rand.New(rand.NewSource(23)), 1<<20+3)
	wantSum(t, "P2.2", "Sum of a long text", x.Sum(b), crc32.ChecksumIEEE(b))
}

func TestMoreLeavesTextAndTableAsTheyWere(t *testing.T) { // P2.2, R5, R7
	x := check.Make()
	whole := []byte("..123456789..")
	was, table := bytes.Clone(whole), x
	for range 3 {
		wantSum(t, "P2.2", "Sum of a piece", x.Sum(whole[2:11]), 0xcbf43926)
		wantSum(t, "P2.2", "More of a piece", x.More(0xe8b7be43, whole[2:11]), slowMore(0xe8b7be43, whole[2:11]))
	}
	if !bytes.Equal(whole, was) || x != table {
		t.Error("P2.2: a sum changed its text or its table")
	}
}

func TestJoinDoesEightStepsForEachByte(t *testing.T) { // P2.3
	longs := []int{2, 3, 4, 5, 7, 8, 31, 32, 33, 63, 64, 255, 256, 257, 1000, 4095, 4096, 65537}
	for _, long := range longs {
		for n, a := range numbers {
			b := numbers[(n+3)%len(numbers)]
			wantSum(t, "P2.3", "Join", check.Join(a, b, long), slowJoin(a, b, long))
		}
	}
	for n := range 32 {
		wantSum(t, "P2.3", "Join of one bit", check.Join(1<<n, 0, 1), steps(1<<n, 8))
		wantSum(t, "P2.3", "Join of one bit", check.Join(1<<n, 0, 9), steps(1<<n, 72))
	}
	wantSum(t, "P2.3", "Join by one byte", check.Join(1, 0, 1), 0x77073096)
}

func TestJoinWithoutBytesDoesNoStep(t *testing.T) { // P2.3
	for _, long := range []int{0, -1, -2, -8, -255, -256, -1 << 31, -1 << 32, -1 << 62, math.MinInt + 1, math.MinInt} {
		for _, a := range numbers {
			for _, b := range numbers {
				wantSum(t, "P2.3", "Join without bytes", check.Join(a, b, long), a^b)
			}
		}
	}
}

func TestJoinWithManyBytes(t *testing.T) { // P2.3
	// The steps come back to where they began just behind 2^32 - 1 of them, and so do eight times as many.
	const round = 1<<32 - 1
	for _, a := range numbers {
		for _, long := range []int{0, 1, 5, 1000} {
			for _, rounds := range []int{1, 2, 1 << 16, 1<<31 - 1} {
				wantSum(t, "P2.3", "Join, rounds later", check.Join(a, 0x1234, long+rounds*round), slowJoin(a, 0x1234, long))
			}
		}
		// 2^n bytes are 2^(n mod 32) bytes, rounds later; the greatest long is 2^31 - 1 bytes so.
		for n := range 16 {
			wantSum(t, "P2.3", "Join by a power of 2", check.Join(a, 9, 1<<(32+n)), slowJoin(a, 9, 1<<n))
		}
		half := check.Join(a, 0, 1<<30-1)
		wantSum(t, "P2.3", "Join by the greatest long", check.Join(a, 9, math.MaxInt), check.Join(half, 9, 1<<30))
	}
	wantSum(t, "P2.3", "Join of 0", check.Join(0, 7, 1<<62), 7)
	wantSum(t, "P2.3", "Join of 0 by the greatest long", check.Join(0, 7, math.MaxInt), 7)
}

func TestJoinByByteAfterByteIsJoinByAll(t *testing.T) { // P2.3
	r := rand.New(rand.NewSource(24))
	for range 200 {
		a, b, one, two := r.Uint32(), r.Uint32(), r.Intn(1<<30), r.Intn(1<<61)
		wantSum(t, "P2.3", "Join in two goes", check.Join(check.Join(a, 0, one), b, two), check.Join(a, b, one+two))
	}
}

func TestSumIsTheSameInWhateverPieces(t *testing.T) { // P2.4
	x := check.Make()
	text := []byte("123456789")
	for cut := range len(text) + 1 {
		a, b := text[:cut], text[cut:]
		wantSum(t, "P2.4", "More(Sum(a), b)", x.More(x.Sum(a), b), 0xcbf43926)
		wantSum(t, "P2.4", "Join of two sums", check.Join(x.Sum(a), x.Sum(b), len(b)), 0xcbf43926)
	}
	r := rand.New(rand.NewSource(25))
	for range 200 {
		long := chanceBytes(r, r.Intn(3000))
		want := x.Sum(long)
		var more, joined uint32
		for rest := long; len(rest) > 0; {
			n := 1 + r.Intn(len(rest))
			more = x.More(more, rest[:n])
			joined = check.Join(joined, x.Sum(rest[:n]), n)
			rest = rest[n:]
		}
		wantSum(t, "P2.4", "More, piece by piece", more, want)
		wantSum(t, "P2.4", "Join, piece by piece", joined, want)
	}
}

// turnBits turns in a copy of b, from bit at on (the lowest of a byte first), those bits that pattern has.
func turnBits(b []byte, at int, pattern uint32) []byte {
	turned := bytes.Clone(b)
	for n := range 32 {
		if pattern>>n&1 == 1 {
			turned[(at+n)/8] ^= 1 << ((at + n) % 8)
		}
	}
	return turned
}

func TestBitsTurnedWithin32MakeAnotherSum(t *testing.T) { // P2.4
	x := check.Make()
	r := rand.New(rand.NewSource(26))
	for _, many := range []int{4, 5, 9, 40} {
		b := chanceBytes(r, many)
		was := x.Sum(b)
		for at := range many*8 - 31 {
			patterns := []uint32{1, 1 << 31, 3, 0x80000001, 0xffffffff, 0xedb88320, 0xdb710641, 0x82608edb, 0x04c11db7}
			for range 50 {
				patterns = append(patterns, max(r.Uint32(), 1))
			}
			for _, p := range patterns {
				if x.Sum(turnBits(b, at, p)) == was {
					t.Fatalf("P2.4: %x, from bit %d on turned by %08x: the same sum", b, at, p)
				}
			}
		}
	}
}

func TestEachBitOfOneByteTurnedMakesAnotherSum(t *testing.T) { // P2.4
	x := check.Make()
	seen := map[uint32]int{}
	for n := range 256 {
		c := x.Sum([]byte{byte(n)})
		if m, is := seen[c]; is {
			t.Errorf("P2.4: the bytes %02x and %02x have one sum, %08x", m, n, c)
		}
		seen[c] = n
	}
}
