package mac_test

import (
	"bytes"
	"crypto/hmac"
	"crypto/pbkdf2"
	"crypto/sha1"
	"encoding/hex"
	"fmt"
	"math"
	"math/rand"
	"slices"
	"testing"

	"wainload/api"
	"wainload/mac"
)

var (
	// keyLengths are those beside a digest's and a block's, at which a key is filled up, whole, or digested.
	keyLengths = []int{0, 1, 19, 20, 21, 63, 64, 65, 127, 128, 129}
	// textLengths are those at which a digest's block is just full, and those beside them.
	textLengths = []int{0, 1, 55, 56, 63, 64, 65, 119, 120, 128, 1000}
	// longs are the lengths of keys beside the ends of a T, and those that are just allowed.
	longs = []int{0, 1, 19, 20, 21, 39, 40, 41, 66, 999, 1000}
)

// knownSums are those of RFC 2202.
var knownSums = []struct {
	key, b []byte
	want   string
}{
	{bytes.Repeat([]byte{0x0b}, 20), []byte("Hi There"), "b617318655057264e28bc0b6fb378c8ef146be00"},
	{[]byte("Jefe"), []byte("what do ya want for nothing?"), "effcdf6ae5eb2fa2d27416d5f184df9c259a7c79"},
	{bytes.Repeat([]byte{0xaa}, 20), bytes.Repeat([]byte{0xdd}, 50), "125d7342b9ac11cd91a39af48aa17b4f63f175d3"},
	{rising(1, 25), bytes.Repeat([]byte{0xcd}, 50), "4c9007f4026250c6bc8414f9bf50c86c2d7235da"},
	{bytes.Repeat([]byte{0x0c}, 20), []byte("Test With Truncation"), "4c1a03424b55e07fe7f27be1d58bb9324a9a5a04"},
	{bytes.Repeat([]byte{0xaa}, 80), []byte("Test Using Larger Than Block-Size Key - Hash Key First"), "aa4ae5e15272d00e95705637ce8a3b55ed402112"},
	{bytes.Repeat([]byte{0xaa}, 80), []byte("Test Using Larger Than Block-Size Key and Larger Than One Block-Size Data"), "e8e99d0f45237d786d6bbaa7965c7808bbff1a91"},
	{nil, nil, "fbdb1d1b18aa6c08324b7d64b71fb76370690e1d"},
	{[]byte("key"), []byte("The quick brown fox jumps over the lazy dog"), "de7c9b85b8b78aa6bc8a7a36f70a90701c9db4d9"},
}

// knownKeys are those of RFC 6070 whose rounds are allowed.
var knownKeys = []struct {
	password, salt string
	rounds, long   int
	want           string
}{
	{"password", "salt", 1, 20, "0c60c80f961f0e71f3a9b524af6012062fe037a6"},
	{"password", "salt", 2, 20, "ea6c014dc72d6f8ccd1ed92ace1d41f0d8de8957"},
	{"password", "salt", 4096, 20, "4b007901b765489abead49d926f721d065a429c1"},
	{"passwordPASSWORDpassword", "saltSALTsaltSALTsaltSALTsaltSALTsalt", 4096, 25, "3d2eec4fe41c849b80c8d83662c0e44a8b291a964cf2f07038"},
	{"pass\x00word", "sa\x00lt", 4096, 16, "56fa6aa75548099dcc37d7f03425e0c3"},
}

func rising(first, last int) []byte {
	var b []byte
	for n := first; n <= last; n++ {
		b = append(b, byte(n))
	}
	return b
}

func chanceBytes(r *rand.Rand, many int) []byte {
	b := make([]byte, many)
	r.Read(b)
	return b
}

func wantSum(t *testing.T, what string, got, want [20]byte) {
	t.Helper()
	if got != want {
		t.Errorf("P11.1: %s: %x; want %x", what, got, want)
	}
}

// mustKey is a key that must be told.
func mustKey(t *testing.T, password, salt []byte, rounds, long int) []byte {
	t.Helper()
	k, ok := mac.Key(password, salt, rounds, long)
	if !ok || len(k) != long {
		t.Fatalf("P11.3: %d rounds, %d bytes: %d bytes, %v", rounds, long, len(k), ok)
	}
	return k
}

func wantKey(t *testing.T, password, salt []byte, rounds int, want []byte) {
	t.Helper()
	if k := mustKey(t, password, salt, rounds, len(want)); !bytes.Equal(k, want) {
		t.Errorf("P11.3: password of %d bytes, salt of %d, %d rounds, %d bytes: %x; want %x", len(password), len(salt), rounds, len(want), k, want)
	}
}

func TestKnownSums(t *testing.T) { // P11.1, the chapter's example among them
	for n, x := range knownSums {
		got := mac.Sum(x.key, x.b)
		if hex.EncodeToString(got[:]) != x.want {
			t.Errorf("P11.1: known sum %d: %x; want %s", n, got, x.want)
		}
	}
}

func TestSumAtTheEdgesOfKeysAndTexts(t *testing.T) { // P11.1
	r := rand.New(rand.NewSource(201))
	for _, long := range keyLengths {
		for _, many := range textLengths {
			key, b := chanceBytes(r, long), chanceBytes(r, many)
			what := fmt.Sprintf("key of %d bytes, text of %d", long, many)
			got := mac.Sum(key, b)
			wantSum(t, what, got, slowMac(key, b))
			h := hmac.New(sha1.New, key)
			h.Write(b)
			wantSum(t, what+", by crypto/hmac", got, [20]byte(h.Sum(nil)))
		}
	}
}

func TestSumOfKeysOfOneByte(t *testing.T) { // P11.1: what a half's bytes become if they are those of a mask
	b := []byte("text")
	for _, x := range []byte{0, 0x36, 0x5c, 0x6a, 0x80, 0xff} {
		for _, long := range keyLengths {
			key := bytes.Repeat([]byte{x}, long)
			wantSum(t, fmt.Sprintf("key of %d bytes %#x", long, x), mac.Sum(key, b), slowMac(key, b))
		}
	}
}

func TestSumOfEveryLengthOfAKey(t *testing.T) { // P11.1
	key := chanceBytes(rand.New(rand.NewSource(202)), 200)
	for long := range len(key) + 1 {
		wantSum(t, fmt.Sprintf("key of %d bytes", long), mac.Sum(key[:long], []byte("text")), slowMac(key[:long], []byte("text")))
	}
}

func TestSumOfNothing(t *testing.T) { // P11.1
	for name, none := range map[string][]byte{"nil": nil, "no bytes": {}, "no bytes of some": []byte("some")[:0]} {
		for _, many := range textLengths {
			b := bytes.Repeat([]byte("b"), many)
			wantSum(t, fmt.Sprintf("key: %s, text of %d bytes", name, many), mac.Sum(none, b), slowMac(nil, b))
		}
		for _, long := range keyLengths {
			key := bytes.Repeat([]byte("k"), long)
			wantSum(t, fmt.Sprintf("key of %d bytes, text: %s", long, name), mac.Sum(key, none), slowMac(key, nil))
		}
	}
}

func TestKeysThatAreOneKey(t *testing.T) { // P11.1: bytes 0 behind a key are not seen up to a block, a long key is its digest
	b := []byte("text")
	for _, long := range []int{0, 1, 19, 20, 63, 64} {
		key := bytes.Repeat([]byte("k"), long)
		filled := append(slices.Clone(key), make([]byte, 64-long)...)
		wantSum(t, fmt.Sprintf("key of %d bytes, filled up", long), mac.Sum(filled, b), mac.Sum(key, b))
		if more := append(filled, 0); mac.Sum(more, b) == mac.Sum(key, b) {
			t.Errorf("P11.1: a key of 65 bytes is taken for one of %d", long)
		}
	}
	for _, long := range []int{65, 127, 128, 129, 1000} {
		key := bytes.Repeat([]byte("k"), long)
		short := sha1.Sum(key)
		wantSum(t, fmt.Sprintf("key of %d bytes, for its digest", long), mac.Sum(short[:], b), mac.Sum(key, b))
	}
	whole := bytes.Repeat([]byte("k"), 64)
	if short := sha1.Sum(whole); mac.Sum(short[:], b) == mac.Sum(whole, b) {
		t.Error("P11.1: a key of 64 bytes is taken for its digest")
	}
}

func TestEachByteOfKeyAndTextIsSeen(t *testing.T) { // P11.1
	r := rand.New(rand.NewSource(203))
	key, b := chanceBytes(r, 64), chanceBytes(r, 65)
	was := mac.Sum(key, b)
	for n := range key {
		key[n] ^= 1
		if mac.Sum(key, b) == was {
			t.Errorf("P11.1: byte %d of a key is not seen", n)
		}
		key[n] ^= 1
	}
	for n := range b {
		b[n] ^= 128
		if mac.Sum(key, b) == was {
			t.Errorf("P11.1: byte %d of a text is not seen", n)
		}
		b[n] ^= 128
	}
	// What is key and what is text is not one row.
	if mac.Sum([]byte("ab"), []byte("c")) == mac.Sum([]byte("a"), []byte("bc")) {
		t.Error("P11.1: where a key ends is not seen")
	}
}

func TestSumOfLongTexts(t *testing.T) { // P11.1
	r := rand.New(rand.NewSource(204))
	for _, many := range []int{4095, 4096, 4097, 1<<20 + 1} {
		key, b := chanceBytes(r, 33), chanceBytes(r, many)
		wantSum(t, fmt.Sprintf("text of %d bytes", many), mac.Sum(key, b), slowMac(key, b))
	}
}

func TestSame(t *testing.T) { // P11.2
	some := []byte("some")
	for _, x := range []struct {
		a, b []byte
		want bool
	}{
		{nil, nil, true}, {nil, []byte{}, true}, {[]byte{}, nil, true}, {[]byte{}, []byte{}, true}, {nil, some[:0], true},
		{some, nil, false}, {nil, some, false}, {[]byte{}, some, false}, {some, []byte{}, false},
		{[]byte{0}, nil, false}, {nil, []byte{0}, false}, {[]byte{0}, []byte{0}, true}, {[]byte{0}, []byte{0, 0}, false}, {[]byte{0, 0}, []byte{0}, false},
		{some, []byte("some"), true}, {some, some, true}, {some, some[:3], false}, {some[:3], some, false}, {some[1:], some[:3], false},
		{some, []byte("Some"), false}, {some, []byte("somf"), false}, {some, []byte("soem"), false}, {some, []byte("some\x00"), false},
		{[]byte{1, 2}, []byte{2, 1}, false}, {[]byte{5, 5}, []byte{6, 6}, false}, // differences that even out in a sum or a xor
	} {
		if got := mac.Same(x.a, x.b); got != x.want {
			t.Errorf("P11.2: Same(%q, %q): %v", x.a, x.b, got)
		}
	}
}

func TestSameSeesEachBit(t *testing.T) { // P11.2
	r := rand.New(rand.NewSource(205))
	for _, many := range []int{1, 2, 10, 20, 64, 300} {
		a := chanceBytes(r, many)
		b := slices.Clone(a)
		if !mac.Same(a, b) {
			t.Errorf("P11.2: %d bytes are not the same as they are", many)
		}
		for n := range b {
			for bit := range 8 {
				b[n] ^= 1 << bit
				if mac.Same(a, b) || mac.Same(b, a) {
					t.Errorf("P11.2: bit %d of byte %d of %d is not seen", bit, n, many)
				}
				b[n] ^= 1 << bit
			}
		}
	}
}

func TestSameOfAllShortLists(t *testing.T) { // P11.2
	lists := [][]byte{nil}
	for n := 0; n < 40; n++ { // those of up to three bytes 0, 128 and 255
		for _, x := range []byte{0, 128, 255} {
			if len(lists[n]) < 3 {
				lists = append(lists, append(slices.Clone(lists[n]), x))
			}
		}
	}
	for _, a := range lists {
		for _, b := range lists {
			if got := mac.Same(a, b); got != bytes.Equal(a, b) {
				t.Errorf("P11.2: Same(%v, %v): %v", a, b, got)
			}
		}
	}
}

func TestKnownKeys(t *testing.T) { // P11.3, the chapter's examples among them
	for _, x := range knownKeys {
		want, _ := hex.DecodeString(x.want)
		if len(want) != x.long {
			t.Fatal("a known key of another length", x)
		}
		wantKey(t, []byte(x.password), []byte(x.salt), x.rounds, want)
	}
}

func TestKeyOfEveryLengthAtTheEdges(t *testing.T) { // P11.3
	password, salt := []byte("password"), []byte("salt")
	for _, long := range longs {
		for _, rounds := range []int{1, 2, 3, 7} {
			want := slowKey(password, salt, rounds, long)
			wantKey(t, password, salt, rounds, want)
			like, err := pbkdf2.Key(sha1.New, string(password), salt, rounds, max(long, 1))
			if err != nil {
				t.Fatal(err)
			}
			if !bytes.Equal(like[:long], want) {
				t.Fatalf("the model differs from crypto/pbkdf2 at %d rounds, %d bytes", rounds, long)
			}
		}
	}
}

func TestKeyAtTheEdgesOfRounds(t *testing.T) { // P11.3
	password, salt := []byte("password"), []byte("salt")
	for _, rounds := range []int{1, 2, 3, 999, 1000, 1001, api.MaxRound - 1, api.MaxRound} {
		wantKey(t, password, salt, rounds, slowKey(password, salt, rounds, 21))
	}
	if api.MaxRound != 5000 {
		t.Errorf("P11.3: MaxRound is %d", api.MaxRound)
	}
}

func TestKeyOfTheMostThatIsAllowed(t *testing.T) { // P11.3
	t.Parallel()
	password, salt := []byte("a password"), []byte("a salt")
	want, err := pbkdf2.Key(sha1.New, string(password), salt, api.MaxRound, 1000)
	if err != nil {
		t.Fatal(err)
	}
	wantKey(t, password, salt, api.MaxRound, want)
}

func TestKeyOfPasswordsAndSaltsOfAllLengths(t *testing.T) { // P11.3
	r := rand.New(rand.NewSource(206))
	for _, many := range append([]int{51, 52, 55, 56, 59, 60, 61, 300}, keyLengths...) { // four bytes short of an edge, too: the index stands behind a salt
		for _, few := range keyLengths {
			password, salt := chanceBytes(r, few), chanceBytes(r, many)
			wantKey(t, password, salt, 3, slowKey(password, salt, 3, 45))
		}
	}
}

func TestKeyOfNoPasswordAndNoSalt(t *testing.T) { // P11.3
	for _, none := range [][]byte{nil, {}, []byte("some")[:0]} {
		wantKey(t, none, none, 2, slowKey(nil, nil, 2, 41))
		wantKey(t, none, []byte("salt"), 2, slowKey(nil, []byte("salt"), 2, 41))
		wantKey(t, []byte("password"), none, 2, slowKey([]byte("password"), nil, 2, 41))
	}
}

func TestKeyRefuses(t *testing.T) { // P11.3, R1
	for _, x := range [][2]int{
		{0, 0}, {0, 1}, {0, 20}, {-1, 0}, {-1, 20}, {api.MaxRound + 1, 0}, {api.MaxRound + 1, 1}, {math.MinInt, 1}, {math.MaxInt, 1}, {1 << 32, 1}, {1<<32 + 1, 1},
		{1, -1}, {1, 1001}, {api.MaxRound, -1}, {api.MaxRound, 1001}, {1, -20}, {1, -21}, {1, math.MinInt}, {1, math.MaxInt}, {1, math.MaxInt - 18}, {1, 1 << 32}, {1, 1<<32 + 20},
		{0, -1}, {0, 1001}, {-1, -1}, {api.MaxRound + 1, 1001}, {math.MinInt, math.MinInt}, {math.MaxInt, math.MaxInt},
	} {
		for _, b := range [][]byte{nil, {}, []byte("some")} {
			if k, ok := mac.Key(b, b, x[0], x[1]); ok || k != nil {
				t.Errorf("P11.3: %d rounds, %d bytes: %x, %v", x[0], x[1], k, ok)
			}
		}
	}
}

func TestKeyOfNoBytesIsTold(t *testing.T) { // P11.3
	for _, rounds := range []int{1, 2, api.MaxRound} {
		if k, ok := mac.Key([]byte("p"), []byte("s"), rounds, 0); !ok || len(k) != 0 {
			t.Errorf("P11.3: %d rounds, no bytes: %x, %v", rounds, k, ok)
		}
	}
}

func TestEachRoundAndEachByteOfPasswordAndSaltIsSeen(t *testing.T) { // P11.3
	seen := map[string]string{}
	look := func(what string, password, salt []byte, rounds int) {
		k := string(mustKey(t, password, salt, rounds, 40))
		if was, is := seen[k]; is {
			t.Errorf("P11.3: %s and %s have one key", was, what)
		}
		seen[k] = what
	}
	password, salt := []byte("password"), []byte("saltsalt")
	for rounds := 1; rounds <= 20; rounds++ {
		look(fmt.Sprint(rounds, " rounds"), password, salt, rounds)
	}
	for n := range password {
		other := slices.Clone(password)
		other[n]++
		look(fmt.Sprint("another byte of the password: ", n), other, salt, 1)
		other = slices.Clone(salt)
		other[n]++
		look(fmt.Sprint("another byte of the salt: ", n), password, other, 1)
	}
	look("a salt with a byte 0 behind it", password, append(slices.Clone(salt), 0), 1)
	look("password and salt, changed", salt, password, 1)
}

func TestPartsOfAKeyAreSumsOfTheSaltAndTheirIndex(t *testing.T) { // P11.3, by the program's own Sum
	password, salt := []byte("password"), []byte("salt")
	k := mustKey(t, password, salt, 1, 1000)
	for i := 1; i <= 50; i++ {
		u := mac.Sum(password, append(slices.Clone(salt), 0, 0, 0, byte(i)))
		if !bytes.Equal(k[20*i-20:20*i], u[:]) {
			t.Errorf("P11.3: T(%d) of one round is %x; want %x", i, k[20*i-20:20*i], u)
		}
	}
}

func TestKeysOfAnyKind(t *testing.T) { // P11.3
	r := rand.New(rand.NewSource(207))
	for range 200 {
		password, salt := chanceBytes(r, r.Intn(150)), chanceBytes(r, r.Intn(150))
		rounds, long := 1+r.Intn(12), r.Intn(200)
		wantKey(t, password, salt, rounds, slowKey(password, salt, rounds, long))
	}
}

func TestAShorterKeyIsTheBeginningOfALongerOne(t *testing.T) { // P11.4
	password, salt := []byte("password"), []byte("salt")
	for _, rounds := range []int{1, 2, 5} {
		whole := mustKey(t, password, salt, rounds, 1000)
		for long := range len(whole) + 1 {
			if k := mustKey(t, password, salt, rounds, long); !bytes.Equal(k, whole[:long]) {
				t.Errorf("P11.4: %d rounds: the key of %d bytes is not the beginning of that of 1000", rounds, long)
			}
		}
	}
	r := rand.New(rand.NewSource(208))
	for range 50 {
		password, salt := chanceBytes(r, r.Intn(100)), chanceBytes(r, r.Intn(100))
		rounds, long := 1+r.Intn(40), r.Intn(300)
		short := r.Intn(long + 1)
		if !bytes.HasPrefix(mustKey(t, password, salt, rounds, long), mustKey(t, password, salt, rounds, short)) {
			t.Errorf("P11.4: %d rounds: the key of %d bytes is not the beginning of that of %d", rounds, short, long)
		}
	}
}

func TestWhatIsGivenStaysAsItWas(t *testing.T) { // R5, the spare room behind it too
	whole := chanceBytes(rand.New(rand.NewSource(209)), 600)
	was := slices.Clone(whole)
	stays := func(what string) {
		t.Helper()
		if !bytes.Equal(whole, was) {
			t.Fatalf("R5: %s changed what it was given, or what lies beside it", what)
		}
	}
	for _, long := range keyLengths {
		for _, many := range keyLengths {
			a, b := whole[10:10+long], whole[300:300+many] // with room behind them that isn't mac's
			mac.Sum(a, b)
			stays("Sum")
			mac.Same(a, b)
			stays("Same")
			mac.Key(a, b, 2, 41)
			stays("Key")
			mac.Key(a, b, 0, 41)
			stays("Key, refused,")
		}
	}
	for many := range 80 { // one list for both
		both := whole[10 : 10+many]
		mac.Sum(both, both)
		mac.Same(both, both)
		mac.Key(both, both, 2, 21)
		stays("a call with one list for both")
	}
}

func TestWhatIsToldIsTheCallersOwn(t *testing.T) { // R6, R7
	password, salt := []byte("password"), []byte("salt")
	for _, long := range longs {
		first := mustKey(t, password, salt, 2, long)
		was := slices.Clone(first)
		second := mustKey(t, password, salt, 2, long)
		for n := range first {
			first[n] ^= 255
		}
		first = append(first, 1, 2, 3)
		first = first[:cap(first)]
		clear(first)
		if !bytes.Equal(second, was) {
			t.Errorf("R6: a key of %d bytes changed with another one", long)
		}
		if third := mustKey(t, password, salt, 2, long); !bytes.Equal(third, was) {
			t.Errorf("R6: a key of %d bytes is another one, behind one that was written into", long)
		}
	}
	if string(password) != "password" || string(salt) != "salt" {
		t.Error("R6: a key shares memory with password or salt")
	}
	sum := mac.Sum(password, salt)
	clear(sum[:])
	wantSum(t, "behind a sum that was written into", mac.Sum(password, salt), slowMac(password, salt))
}

func TestWhatWasGivenIsNotKept(t *testing.T) { // R6
	password, salt := []byte("password"), []byte("salt")
	k := mustKey(t, password, salt, 2, 41)
	sum := mac.Sum(password, salt)
	clear(password)
	clear(salt)
	if want := slowKey([]byte("password"), []byte("salt"), 2, 41); !bytes.Equal(k, want) {
		t.Error("R6: a key changed with its password or salt")
	}
	wantSum(t, "behind a key that was written into", sum, slowMac([]byte("password"), []byte("salt")))
	wantKey(t, password, salt, 2, slowKey(make([]byte, 8), make([]byte, 4), 2, 41))
}
