package counter_test

import (
	"bytes"
	"encoding/hex"
	"fmt"
	"math"
	"math/rand"
	"slices"
	"strings"
	"sync"
	"testing"

	"wainload/api"
	"wainload/cipher"
	"wainload/counter"
	"wainload/mac"
)

var (
	strengths      = []int{1, 2, 3}
	wrongStrengths = []int{math.MinInt, -3, -2, -1, 0, 4, 5, 8, 16, 128, 256, 257, 1<<32 + 1, math.MaxInt}
	// wrongKeys are the lengths that no key has.
	wrongKeys = []int{0, 1, 8, 12, 15, 17, 23, 25, 31, 33, 48, 64, 1000}
	// dataLengths are those beside the ends of blocks, and beside number 256, the first of two bytes: it stands at 4080.
	dataLengths = []int{0, 1, 15, 16, 17, 31, 32, 33, 100, 4079, 4080, 4081, 4095, 4096, 4097, 4113, 5000}
	// passwords are nil, of no bytes, with bytes 0, and beside the 64 bytes behind which mac takes a digest.
	passwords = [][]byte{nil, {}, []byte("p"), []byte("a password"), {0}, []byte("pass\x00word"), bytes.Repeat([]byte("p"), 63), bytes.Repeat([]byte("p"), 64), bytes.Repeat([]byte("p"), 65), bytes.Repeat([]byte("long"), 100)}
)

// knownSealed is what 7-Zip wrote into ZIP archives, by AES of 128, 192 and 256 bits.
var knownSealed = []struct {
	strength int
	sealed   string
}{
	{1, "0896945c2c4edfc595dcbd9220f85ac7b2c160dae4d2753f75234d9cab70907d880b3176dc284036b0e1998a71ca63ec228eb9d1ae72c2ba3a0318a6a63e99"},
	{2, "cbcfd705e15f01a0b19919c2810d9955c4660d89f0b6d0156f0a1d29b156dd5deed5c701eab9842bc410ddf7717f9f3216b4a5148864cc327dc3e432128f9d9fb323eb"},
	{3, "e30cc02a792f529d9ce9121e46ea1e129102db6618eb428611265bd956563de50c662e2a92a741f6db8cc5cb99d718bc91486bb3e46fb0e712db7264d16f6019b0ca6c63b5b434"},
}

const (
	knownPassword = "a password"
	knownData     = "forty bytes and some more, in three blocks."
)

func chanceBytes(r *rand.Rand, many int) []byte {
	b := make([]byte, many)
	r.Read(b)
	return b
}

func saltOf(strength int) []byte { return bytes.Repeat([]byte("salt"), saltLong[strength]/4) }

// least is how many bytes salt, look and seal take together.
func least(strength int) int { return saltLong[strength] + 12 }

func mustStream(t *testing.T, key, data []byte) []byte {
	t.Helper()
	b, err := counter.Stream(key, data)
	if err != api.OK || len(b) != len(data) {
		t.Fatalf("P13.1: Stream(key of %d bytes, %d bytes): %d bytes, %d", len(key), len(data), len(b), err)
	}
	return b
}

func mustSeal(t *testing.T, strength int, password, salt, data []byte) []byte {
	t.Helper()
	b, err := counter.Seal(strength, password, salt, data)
	if err != api.OK || len(b) != least(strength)+len(data) {
		t.Fatalf("P13.2: Seal(%d, password of %d bytes, salt of %d, %d bytes): %d bytes, %d", strength, len(password), len(salt), len(data), len(b), err)
	}
	return b
}

// wantOpen opens, and holds what is told against data, or against an error with nothing beside it.
func wantOpen(t *testing.T, what string, strength int, password, sealed, data []byte, want api.Errno) {
	t.Helper()
	got, err := counter.Open(strength, password, sealed)
	if err != want {
		t.Errorf("P13.3: %s: strength %d: %d; want %d", what, strength, err, want)
	}
	if err != api.OK && got != nil {
		t.Errorf("P13.4: %s: strength %d: %d, and %d bytes beside it", what, strength, err, len(got))
	}
	if err == api.OK && !bytes.Equal(got, data) {
		t.Errorf("P13.3: %s: strength %d: %x; want %x", what, strength, got, data)
	}
}

// wantAsModel holds what Open tells against the model.
func wantAsModel(t *testing.T, what string, strength int, password, sealed []byte) {
	t.Helper()
	data, err := slowOpen(strength, password, sealed)
	wantOpen(t, what, strength, password, sealed, data, err)
}

func TestErrors(t *testing.T) {
	if api.ErrCipherKey != 120 || api.ErrCounterForm != 130 || api.ErrCounterPassword != 131 || api.ErrCounterTag != 132 {
		t.Error("the errors have other numbers than the chapter's")
	}
}

func TestStreamOfAllLengths(t *testing.T) { // P13.1
	r := rand.New(rand.NewSource(301))
	for _, strength := range strengths {
		key := chanceBytes(r, keyLong[strength])
		for _, many := range dataLengths {
			data := chanceBytes(r, many)
			if got := mustStream(t, key, data); !bytes.Equal(got, slowStream(key, data)) {
				t.Errorf("P13.1: key of %d bytes, %d bytes: not those of the model", len(key), many)
			}
		}
		data := chanceBytes(r, 300)
		for many := range data {
			if got := mustStream(t, key, data[:many]); !bytes.Equal(got, slowStream(key, data[:many])) {
				t.Errorf("P13.1: key of %d bytes, %d bytes: not those of the model", len(key), many)
			}
		}
	}
}

func TestStreamIsBlocksOfNumbers(t *testing.T) { // P13.1, by the program's own Block
	for _, strength := range strengths {
		key := bytes.Repeat([]byte{7}, keyLong[strength])
		k, err := cipher.New(key)
		if err != api.OK {
			t.Fatal(err)
		}
		got := mustStream(t, key, make([]byte, 16*600))
		for n := range 600 {
			number := n + 1
			want := k.Block([16]byte{byte(number), byte(number >> 8)})
			if !bytes.Equal(got[16*n:16*n+16], want[:]) {
				t.Errorf("P13.1: key of %d bytes: block %d is not that of the number %d", len(key), n, number)
			}
		}
	}
}

func TestStreamOfNumbersOfThreeBytes(t *testing.T) { // P13.1
	r := rand.New(rand.NewSource(302))
	for _, strength := range strengths {
		key, data := chanceBytes(r, keyLong[strength]), chanceBytes(r, 1<<20+33)
		if !bytes.Equal(mustStream(t, key, data), slowStream(key, data)) {
			t.Errorf("P13.1: key of %d bytes, %d bytes: not those of the model", len(key), len(data))
		}
	}
}

func TestStreamOfNothing(t *testing.T) { // P13.1
	for _, strength := range strengths {
		for name, none := range map[string][]byte{"nil": nil, "no bytes": {}, "no bytes of some": []byte("some")[:0]} {
			if b, err := counter.Stream(make([]byte, keyLong[strength]), none); err != api.OK || len(b) != 0 {
				t.Errorf("P13.1: key of %d bytes, %s: %x, %d", keyLong[strength], name, b, err)
			}
		}
	}
}

func TestStreamRefusesKeys(t *testing.T) { // P13.1, R1
	for _, data := range [][]byte{nil, {}, []byte("a"), make([]byte, 100)} {
		if b, err := counter.Stream(nil, data); err != api.ErrCipherKey || b != nil {
			t.Errorf("P13.1: no key, %d bytes: %x, %d", len(data), b, err)
		}
		for _, long := range wrongKeys {
			for _, room := range []int{0, 16, 32} { // room behind a key is no part of it
				if b, err := counter.Stream(make([]byte, long, long+room), data); err != api.ErrCipherKey || b != nil {
					t.Errorf("P13.1: key of %d bytes, %d bytes: %x, %d", long, len(data), b, err)
				}
			}
		}
	}
}

func TestStreamTakesKeysOfThreeLengths(t *testing.T) { // P13.1
	for long := range 70 {
		want := api.ErrCipherKey
		if long == 16 || long == 24 || long == 32 {
			want = api.OK
		}
		if _, err := counter.Stream(make([]byte, long), []byte("some")); err != want {
			t.Errorf("P13.1: key of %d bytes: %d; want %d", long, err, want)
		}
	}
}

func TestStreamOfAStreamIsTheData(t *testing.T) { // P13.1
	r := rand.New(rand.NewSource(303))
	for _, strength := range strengths {
		key := chanceBytes(r, keyLong[strength])
		for _, many := range dataLengths {
			data := chanceBytes(r, many)
			hidden := mustStream(t, key, data)
			if many > 8 && bytes.Equal(hidden, data) {
				t.Errorf("P13.1: %d bytes are as they were", many)
			}
			if !bytes.Equal(mustStream(t, key, hidden), data) {
				t.Errorf("P13.1: key of %d bytes, %d bytes: the stream of the stream is not the data", len(key), many)
			}
		}
	}
}

func TestStreamOfABeginning(t *testing.T) { // P13.1: a byte hangs on its place and the key alone
	r := rand.New(rand.NewSource(304))
	key, data := chanceBytes(r, 16), chanceBytes(r, 4200)
	whole := mustStream(t, key, data)
	for _, many := range dataLengths {
		if many <= len(data) && !bytes.Equal(mustStream(t, key, data[:many]), whole[:many]) {
			t.Errorf("P13.1: %d bytes are not the beginning of more", many)
		}
	}
}

func TestKnownSealed(t *testing.T) { // P13.2, P13.3
	for _, x := range knownSealed {
		sealed, err := hex.DecodeString(x.sealed)
		if err != nil {
			t.Fatal(err)
		}
		salt := sealed[:saltLong[x.strength]]
		if got := mustSeal(t, x.strength, []byte(knownPassword), salt, []byte(knownData)); !bytes.Equal(got, sealed) {
			t.Errorf("P13.2: strength %d: %x; want %x", x.strength, got, sealed)
		}
		wantOpen(t, "sealed by another program", x.strength, []byte(knownPassword), sealed, []byte(knownData), api.OK)
	}
}

func TestExamples(t *testing.T) { // P13.2, P13.3, and DOC.md's fifth example
	p := []byte("p")
	sealed, err := counter.Seal(1, p, make([]byte, 8), []byte("ab"))
	if err != api.OK || len(sealed) != 22 {
		t.Fatalf("P13.2: Seal(1, p, 8 bytes, ab): %d bytes, %d", len(sealed), err)
	}
	wantOpen(t, "19 bytes", 1, p, sealed[:19], nil, api.ErrCounterForm)
	wantOpen(t, "19 bytes 0", 1, p, make([]byte, 19), nil, api.ErrCounterForm)
	sealed[21] ^= 1
	wantOpen(t, "another last byte", 1, p, sealed, nil, api.ErrCounterTag)
}

func TestSealOfAllLengthsAndPasswords(t *testing.T) { // P13.2, P13.4
	r := rand.New(rand.NewSource(305))
	look := func(strength int, password []byte, many int) {
		salt, data := chanceBytes(r, saltLong[strength]), chanceBytes(r, many)
		what := fmt.Sprintf("password of %d bytes, %d bytes", len(password), many)
		got := mustSeal(t, strength, password, salt, data)
		if want, _ := slowSeal(strength, password, salt, data); !bytes.Equal(got, want) {
			t.Errorf("P13.2: strength %d, %s: not that of the model", strength, what)
		}
		wantOpen(t, what, strength, password, got, data, api.OK)
	}
	for _, strength := range strengths {
		for _, many := range dataLengths {
			look(strength, []byte("password"), many)
		}
		for _, password := range passwords {
			look(strength, password, 20)
		}
	}
	look(3, []byte("password"), 1<<20+1)
}

func TestSealByItsParts(t *testing.T) { // P13.2, by the program's own Key, Sum and Stream
	password, data := []byte("password"), []byte("some data, of more than a block")
	for _, strength := range strengths {
		long, salt := keyLong[strength], saltOf(strength)
		all, ok := mac.Key(password, salt, 1000, 2*long+2)
		if !ok {
			t.Fatal("no key")
		}
		inside := mustStream(t, all[:long], data)
		sum := mac.Sum(all[long:2*long], inside)
		got := mustSeal(t, strength, password, salt, data)
		if want := slices.Concat(salt, all[2*long:], inside, sum[:10]); !bytes.Equal(got, want) {
			t.Errorf("P13.2: strength %d: %x; want %x", strength, got, want)
		}
	}
}

func TestSealOfNothing(t *testing.T) { // P13.2, P13.4
	for _, strength := range strengths {
		for _, none := range [][]byte{nil, {}, []byte("some")[:0]} {
			got := mustSeal(t, strength, none, saltOf(strength), none)
			if want, _ := slowSeal(strength, nil, saltOf(strength), nil); !bytes.Equal(got, want) {
				t.Errorf("P13.2: strength %d: nothing becomes %x; want %x", strength, got, want)
			}
			wantOpen(t, "nothing", strength, none, got, nil, api.OK)
		}
	}
}

func TestSealRefuses(t *testing.T) { // P13.2, R1
	refused := func(strength int, salt []byte) {
		t.Helper()
		for _, data := range [][]byte{nil, []byte("data")} {
			if b, err := counter.Seal(strength, []byte("p"), salt, data); err != api.ErrCounterForm || b != nil {
				t.Errorf("P13.2: strength %d, salt of %d bytes: %x, %d", strength, len(salt), b, err)
			}
		}
	}
	for _, strength := range wrongStrengths {
		refused(strength, nil)
		for long := range 40 {
			refused(strength, make([]byte, long))
		}
	}
	for _, strength := range strengths {
		refused(strength, nil)
		for long := range 40 {
			if long != saltLong[strength] {
				refused(strength, make([]byte, long, long+16)) // room behind a salt is no part of it
			}
		}
	}
}

func TestOpenRefusesStrengths(t *testing.T) { // P13.3, whatever else is right or amiss
	for _, good := range strengths {
		sealed := mustSeal(t, good, []byte("p"), saltOf(good), []byte("data"))
		for _, strength := range wrongStrengths {
			for _, b := range [][]byte{nil, {}, sealed[:5], sealed, make([]byte, 100)} {
				for _, password := range []string{"p", "q"} {
					wantOpen(t, fmt.Sprint(len(b), " bytes"), strength, []byte(password), b, nil, api.ErrCounterForm)
				}
			}
		}
	}
}

func TestOpenOfTooFewBytes(t *testing.T) { // P13.3, whatever else is right or amiss
	for _, strength := range strengths {
		wantOpen(t, "nil", strength, []byte("p"), nil, nil, api.ErrCounterForm)
		sealed := mustSeal(t, strength, []byte("p"), saltOf(strength), []byte("some data"))
		for many := range least(strength) {
			what := fmt.Sprint(many, " bytes")
			for _, password := range []string{"", "p", "q"} {
				wantOpen(t, what, strength, []byte(password), sealed[:many], nil, api.ErrCounterForm)
			}
			wantOpen(t, what+", 0", strength, []byte("p"), make([]byte, many), nil, api.ErrCounterForm)
		}
	}
}

func TestOpenOfJustEnoughBytes(t *testing.T) { // P13.3: nothing is inside
	for _, strength := range strengths {
		sealed := mustSeal(t, strength, []byte("p"), saltOf(strength), nil)
		if len(sealed) != least(strength) {
			t.Fatalf("P13.2: strength %d: nothing becomes %d bytes", strength, len(sealed))
		}
		wantOpen(t, "nothing", strength, []byte("p"), sealed, nil, api.OK)
		wantOpen(t, "nothing, another password", strength, []byte("q"), sealed, nil, api.ErrCounterPassword)
		for n := len(sealed) - 10; n < len(sealed); n++ {
			other := slices.Clone(sealed)
			other[n] ^= 64
			wantOpen(t, "nothing, another tag", strength, []byte("p"), other, nil, api.ErrCounterTag)
		}
		longer := mustSeal(t, strength, []byte("p"), saltOf(strength), []byte("some data"))
		wantOpen(t, "cut", strength, []byte("p"), longer[:least(strength)], nil, api.ErrCounterTag)
		wantOpen(t, "bytes 0", strength, []byte("p"), make([]byte, least(strength)), nil, api.ErrCounterPassword)
	}
}

func TestOpenSeesEachBit(t *testing.T) { // P13.3, P13.4
	t.Parallel()
	for _, strength := range strengths {
		sealed := mustSeal(t, strength, []byte("p"), saltOf(strength), []byte("17 bytes of data."))
		inside := saltLong[strength] + 2
		for bit := range 8 * len(sealed) {
			other := slices.Clone(sealed)
			other[bit/8] ^= 1 << (bit % 8)
			what := fmt.Sprint("another bit ", bit)
			if bit/8 < saltLong[strength] { // another look, or, seldom, the same one
				wantAsModel(t, what+", of the salt", strength, []byte("p"), other)
				if _, err := counter.Open(strength, []byte("p"), other); err == api.OK {
					t.Errorf("P13.3: strength %d: %s of the salt is not seen", strength, what)
				}
			} else if bit/8 < inside {
				wantOpen(t, what+", of the look", strength, []byte("p"), other, nil, api.ErrCounterPassword)
			} else {
				wantOpen(t, what+", of inside or seal", strength, []byte("p"), other, nil, api.ErrCounterTag)
			}
		}
	}
}

func TestOpenOfLongOnesSeesEachBlock(t *testing.T) { // P13.3
	password := []byte("p")
	sealed := mustSeal(t, 1, password, saltOf(1), make([]byte, 5000))
	for n := 10; n < len(sealed); n += 97 {
		sealed[n] ^= 128
		wantOpen(t, fmt.Sprint("another byte ", n), 1, password, sealed, nil, api.ErrCounterTag)
		sealed[n] ^= 128
	}
	wantOpen(t, "as it was", 1, password, sealed, make([]byte, 5000), api.OK)
}

func TestOpenOfMoreOrFewerBytes(t *testing.T) { // P13.3
	for _, strength := range strengths {
		p, data := []byte("p"), []byte("some data, of more than a block")
		sealed := mustSeal(t, strength, p, saltOf(strength), data)
		for _, behind := range []string{"\x00", "x", strings.Repeat("x", 10), string(sealed)} {
			wantOpen(t, "bytes behind it", strength, p, append(slices.Clone(sealed), behind...), nil, api.ErrCounterTag)
		}
		for many := least(strength); many < len(sealed); many++ {
			wantOpen(t, fmt.Sprint("its first ", many), strength, p, sealed[:many], nil, api.ErrCounterTag)
		}
		wantAsModel(t, "without its first byte", strength, p, sealed[1:])
		wantAsModel(t, "with a byte ahead", strength, p, append([]byte{0}, sealed...))
		wantOpen(t, "with room behind it", strength, p, append(slices.Clone(sealed), "room"...)[:len(sealed)], data, api.OK)
	}
}

func TestWhichErrorComesFirst(t *testing.T) { // P13.3, R1
	for _, strength := range strengths {
		p := []byte("p")
		sealed := mustSeal(t, strength, p, saltOf(strength), []byte("some data"))
		both := slices.Clone(sealed)
		both[saltLong[strength]] ^= 1
		both[len(both)-1] ^= 1
		wantOpen(t, "look and seal", strength, p, both, nil, api.ErrCounterPassword)
		wantOpen(t, "look, seal and strength", 0, p, both, nil, api.ErrCounterForm)
		wantOpen(t, "look, seal and length", strength, p, both[:least(strength)-1], nil, api.ErrCounterForm)
		inside := slices.Clone(sealed)
		inside[saltLong[strength]+1] ^= 1
		inside[saltLong[strength]+2] ^= 1
		wantOpen(t, "look and inside", strength, p, inside, nil, api.ErrCounterPassword)
		wantOpen(t, "password and seal", strength, []byte("q"), both, nil, api.ErrCounterPassword)
	}
}

func TestOpenWithAnotherPassword(t *testing.T) { // P13.3, P13.4
	for _, strength := range strengths {
		sealed := mustSeal(t, strength, []byte("password"), saltOf(strength), []byte("some data"))
		for _, other := range []string{"", "p", "passwor", "password ", "password\x00x", "Password", "passwore", "drowssap", strings.Repeat("password", 10)} {
			wantAsModel(t, "password "+other, strength, []byte(other), sealed)
			if b, err := counter.Open(strength, []byte(other), sealed); err == api.OK || b != nil {
				t.Errorf("P13.4: strength %d: opened with %q", strength, other)
			}
		}
		wantOpen(t, "another password", strength, []byte("q"), sealed, nil, api.ErrCounterPassword)
		wantOpen(t, "no password", strength, nil, sealed, nil, api.ErrCounterPassword)
	}
}

func TestOpenWithAPasswordOfTheSameLook(t *testing.T) { // P13.3: a right look is no right password
	for strength, other := range map[int]string{1: "another 64860", 2: "another 5228", 3: "another 30551"} {
		salt, data := saltOf(strength), []byte("some data")
		_, _, look := slowKeys(strength, []byte("a password"), salt)
		if _, _, same := slowKeys(strength, []byte(other), salt); !bytes.Equal(look, same) {
			t.Fatalf("strength %d: %q has another look", strength, other)
		}
		sealed := mustSeal(t, strength, []byte("a password"), salt, data)
		wantOpen(t, "a password of the same look", strength, []byte(other), sealed, nil, api.ErrCounterTag)
		wantOpen(t, "the password", strength, []byte("a password"), sealed, data, api.OK)
	}
}

func TestOpenWithAnotherStrength(t *testing.T) { // P13.3
	for _, strength := range strengths {
		for _, many := range []int{0, 4, 8, 30} {
			sealed := mustSeal(t, strength, []byte("p"), saltOf(strength), make([]byte, many))
			for _, other := range strengths {
				wantAsModel(t, fmt.Sprint("sealed with strength ", strength), other, []byte("p"), sealed)
				if _, err := counter.Open(other, []byte("p"), sealed); (err == api.OK) != (other == strength) {
					t.Errorf("P13.3: sealed with strength %d, opened with %d: %d", strength, other, err)
				}
			}
		}
	}
}

func TestOpenOfAnyKind(t *testing.T) { // P13.3, P13.4: by chance, sealed by the model or not at all
	t.Parallel()
	r := rand.New(rand.NewSource(306))
	for range 150 {
		strength := 1 + r.Intn(3)
		password, data := chanceBytes(r, r.Intn(100)), chanceBytes(r, r.Intn(100))
		sealed, _ := slowSeal(strength, password, chanceBytes(r, saltLong[strength]), data)
		wantOpen(t, "sealed by the model", strength, password, sealed, data, api.OK)
		wantAsModel(t, "no sealed bytes", strength, password, chanceBytes(r, r.Intn(60)))
		// Its look is right, and its tag stands there, but of other bytes.
		wantAsModel(t, "turned", strength, password, slices.Concat(sealed[:saltLong[strength]+2], sealed[saltLong[strength]+5:], sealed[saltLong[strength]+2:saltLong[strength]+5]))
	}
}

func TestSealsDifferByAllThatIsGiven(t *testing.T) { // P13.2
	seen := map[string]string{}
	look := func(what string, strength int, password, salt, data string) {
		b := string(mustSeal(t, strength, []byte(password), []byte(salt), []byte(data)))[saltLong[strength]:]
		if was, is := seen[b]; is {
			t.Errorf("P13.2: %s and %s are sealed alike", was, what)
		}
		seen[b] = what
	}
	look("as it is", 1, "password", "saltsalt", "data")
	look("another password", 1, "passwords", "saltsalt", "data")
	look("another salt", 1, "password", "saltsalu", "data")
	look("other data", 1, "password", "saltsalt", "datb")
	look("a byte more", 1, "password", "saltsalt", "data\x00")
	look("another strength", 2, "password", "saltsaltsalt", "data")
	look("a third strength", 3, "password", "saltsaltsaltsalt", "data")
}

func TestWhatIsGivenStaysAsItWas(t *testing.T) { // R5, the spare room behind it too
	whole := chanceBytes(rand.New(rand.NewSource(307)), 800)
	was := slices.Clone(whole)
	stays := func(what string) {
		t.Helper()
		if !bytes.Equal(whole, was) {
			t.Fatalf("R5: %s changed what it was given, or what lies beside it", what)
		}
	}
	for _, strength := range strengths {
		for _, many := range []int{0, 1, 15, 16, 17, 33, 100} {
			key, salt := whole[10:10+keyLong[strength]], whole[60:60+saltLong[strength]]
			password, data := whole[100:100+many], whole[300:300+many] // all with room behind them that isn't counter's
			counter.Stream(key, data)
			stays("Stream")
			counter.Stream(key[1:], data)
			stays("Stream, refused,")
			sealed := mustSeal(t, strength, password, salt, data)
			stays("Seal")
			counter.Seal(strength, password, salt[1:], data)
			stays("Seal, refused,")

			copy(whole[600:], sealed)
			copy(was[600:], sealed)
			inner := whole[600 : 600+len(sealed)]
			wantOpen(t, "with room behind it", strength, password, inner, data, api.OK)
			stays("Open")
			whole[600+len(sealed)-1] ^= 1
			was[600+len(sealed)-1] ^= 1
			counter.Open(strength, password, inner)
			stays("Open, tag refused,")
			counter.Open(strength, data[:many/2], inner)
			stays("Open, password refused,")
			counter.Open(strength, password, inner[:9])
			stays("Open, form refused,")
		}
	}
}

func TestOneListForAll(t *testing.T) { // R5
	for _, strength := range strengths {
		b := chanceBytes(rand.New(rand.NewSource(308)), 100)
		was := slices.Clone(b)
		key, salt := b[:keyLong[strength]], b[:saltLong[strength]]
		if !bytes.Equal(mustStream(t, key, key), slowStream(was[:len(key)], was[:len(key)])) {
			t.Errorf("P13.1: strength %d: a key, encrypted by itself", strength)
		}
		want, _ := slowSeal(strength, was, was[:len(salt)], was)
		if got := mustSeal(t, strength, b, salt, b); !bytes.Equal(got, want) {
			t.Errorf("P13.2: strength %d: one list for all", strength)
		}
		wantAsModel(t, "one list for both", strength, b, b)
		if !bytes.Equal(b, was) {
			t.Errorf("R5: strength %d: the one list is changed", strength)
		}
	}
}

// spoil writes into all of a list, and into its room behind.
func spoil(b []byte) {
	b = b[:cap(b)]
	for n := range b {
		b[n] ^= 255
	}
}

func TestWhatIsToldIsTheCallersOwn(t *testing.T) { // R6
	for _, strength := range strengths {
		for _, many := range []int{0, 1, 16, 33, 5000} {
			key, password, salt, data := make([]byte, keyLong[strength]), []byte("p"), saltOf(strength), bytes.Repeat([]byte("d"), many)
			hidden := mustStream(t, key, data)
			sealed := mustSeal(t, strength, password, salt, data)
			wantHidden, wantSealed := slices.Clone(hidden), slices.Clone(sealed)
			opened, err := counter.Open(strength, password, sealed)
			if err != api.OK {
				t.Fatal(err)
			}
			spoil(opened)
			if !bytes.Equal(hidden, wantHidden) || !bytes.Equal(sealed, wantSealed) {
				t.Errorf("R6: strength %d, %d bytes: to write into what Open told changed others", strength, many)
			}
			spoil(hidden)
			spoil(sealed)
			if !bytes.Equal(key, make([]byte, len(key))) || string(password) != "p" || !bytes.Equal(salt, saltOf(strength)) || !bytes.Equal(data, bytes.Repeat([]byte("d"), many)) {
				t.Errorf("R6: strength %d, %d bytes: what is told shares bytes with what was handed in", strength, many)
			}
			if !bytes.Equal(mustStream(t, key, data), wantHidden) || !bytes.Equal(mustSeal(t, strength, password, salt, data), wantSealed) {
				t.Errorf("R7: strength %d, %d bytes: the same calls tell others", strength, many)
			}
		}
	}
}

func TestWhatWasGivenIsNotKept(t *testing.T) { // R6
	for _, strength := range strengths {
		key, password, salt, data := make([]byte, keyLong[strength]), []byte("p"), saltOf(strength), []byte("some data, of more than a block")
		hidden := mustStream(t, key, data)
		sealed := mustSeal(t, strength, password, salt, data)
		opened, err := counter.Open(strength, password, sealed)
		wantHidden, wantSealed, wantOpened := slices.Clone(hidden), slices.Clone(sealed), slices.Clone(data)
		for _, b := range [][]byte{key, password, salt, data} {
			spoil(b)
		}
		if err != api.OK || !bytes.Equal(hidden, wantHidden) || !bytes.Equal(sealed, wantSealed) || !bytes.Equal(opened, wantOpened) {
			t.Errorf("R6: strength %d: what was told changed with what was handed in: %d", strength, err)
		}
		spoil(sealed)
		if !bytes.Equal(opened, wantOpened) {
			t.Errorf("R6: strength %d: what was opened changed with what was sealed", strength)
		}
	}
}

func TestAnErrorChangesNothing(t *testing.T) { // R2, R7
	password, data := []byte("p"), []byte("some data")
	for _, strength := range strengths {
		sealed := mustSeal(t, strength, password, saltOf(strength), data)
		counter.Stream(nil, data)
		counter.Seal(strength, password, nil, data)
		counter.Open(strength, password, nil)
		counter.Open(strength, []byte("q"), sealed)
		wantOpen(t, "behind errors", strength, password, sealed, data, api.OK)
		if again := mustSeal(t, strength, password, saltOf(strength), data); !bytes.Equal(again, sealed) {
			t.Errorf("R2: strength %d: sealed otherwise behind errors", strength)
		}
	}
}

func TestSeveralAtOnce(t *testing.T) { // R7
	var group sync.WaitGroup
	var errs [8]string
	for n := range errs {
		group.Add(1)
		go func() {
			defer group.Done()
			strength := 1 + n%3
			data := bytes.Repeat([]byte{byte(n)}, 100*n)
			for range 3 {
				sealed, err := counter.Seal(strength, []byte{byte(n)}, saltOf(strength), data)
				got, err2 := counter.Open(strength, []byte{byte(n)}, sealed)
				if err != api.OK || err2 != api.OK || !bytes.Equal(got, data) {
					errs[n] = fmt.Sprint(err, " ", err2)
				}
			}
		}()
	}
	group.Wait()
	for n, text := range errs {
		if text != "" {
			t.Errorf("R7: %d: %s", n, text)
		}
	}
}

func BenchmarkStream(b *testing.B) {
	data := make([]byte, 1<<20)
	b.SetBytes(int64(len(data)))
	for range b.N {
		counter.Stream(data[:32], data)
	}
}
