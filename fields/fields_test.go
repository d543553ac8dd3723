package fields_test

import (
	"bytes"
	"math"
	"math/big"
	"math/rand"
	"regexp"
	"strings"
	"testing"

	"wainload/api"
	"wainload/fields"
)

const (
	top  = 1 << 62 // the greatest number that the document has
	nano = 1000000000
)

var (
	octalForm   = regexp.MustCompile(`^ *([0-7]*)[ \x00]*$`)
	decimalForm = regexp.MustCompile(`^-?[0-9]+$`)
	secondsForm = regexp.MustCompile(`^(-?)([0-9]+)(?:\.([0-9]+))?$`)
)

// within is v, if it lies between - 2^62 and 2^62.
func within(v *big.Int) (int, api.Errno) {
	if new(big.Int).Abs(v).Cmp(big.NewInt(top)) > 0 {
		return 0, api.ErrFieldOver
	}
	return int(v.Int64()), api.OK
}

func bigOf(s string, base int) *big.Int {
	v, _ := new(big.Int).SetString("0"+s, base)
	return v
}

// slowOctal is P3.2 word by word.
func slowOctal(b []byte) (int, api.Errno) {
	if len(b) > 0 && b[0] == 128 {
		return within(new(big.Int).SetBytes(b[1:]))
	}
	m := octalForm.FindSubmatch(b)
	if m == nil {
		return 0, api.ErrFieldForm
	}
	return within(bigOf(string(m[1]), 8))
}

// slowDecimal is P3.4 word by word.
func slowDecimal(s string) (int, api.Errno) {
	if !decimalForm.MatchString(s) {
		return 0, api.ErrFieldForm
	}
	v, _ := new(big.Int).SetString(s, 10)
	return within(v)
}

// slowSeconds is the first half of P3.5 word by word.
func slowSeconds(s string) (int64, api.Errno) {
	m := secondsForm.FindStringSubmatch(s)
	if m == nil {
		return 0, api.ErrFieldForm
	}
	whole := bigOf(m[2], 10)
	if whole.Cmp(big.NewInt(9000000000)) > 0 {
		return 0, api.ErrFieldOver
	}
	t := bigOf(m[2]+(m[3] + "000000000")[:9], 10).Int64()
	if m[1] == "-" {
		t = -t
	}
	return t, api.OK
}

func wantOctal(t *testing.T, s string, v int, e api.Errno) {
	t.Helper()
	if gotV, gotE := fields.Octal([]byte(s)); gotV != v || gotE != e {
		t.Errorf("P3.2: Octal(%q) = %d, %d; want %d, %d", s, gotV, gotE, v, e)
	}
}

func wantPutOctal(t *testing.T, v, n int, s string, is bool) {
	t.Helper()
	if got, gotIs := fields.PutOctal(v, n); string(got) != s || gotIs != is {
		t.Errorf("P3.3: PutOctal(%d, %d) = %q, %v; want %q, %v", v, n, got, gotIs, s, is)
	}
}

func wantDecimal(t *testing.T, s string, v int, e api.Errno) {
	t.Helper()
	if gotV, gotE := fields.Decimal(s); gotV != v || gotE != e {
		t.Errorf("P3.4: Decimal(%q) = %d, %d; want %d, %d", s, gotV, gotE, v, e)
	}
}

func wantSeconds(t *testing.T, s string, v int64, e api.Errno) {
	t.Helper()
	if gotV, gotE := fields.Seconds(s); gotV != v || gotE != e {
		t.Errorf("P3.5: Seconds(%q) = %d, %d; want %d, %d", s, gotV, gotE, v, e)
	}
}

func wantPutSeconds(t *testing.T, v int64, s string) {
	t.Helper()
	if got := fields.PutSeconds(v); got != s {
		t.Errorf("P3.5: PutSeconds(%d) = %q; want %q", v, got, s)
	}
}

// eachText tells all texts of those letters up to that many of them.
func eachText(letters []string, many int, tell func(string)) {
	var longer func(s string, left int)
	longer = func(s string, left int) {
		tell(s)
		if left == 0 {
			return
		}
		for _, l := range letters {
			longer(s+l, left-1)
		}
	}
	longer("", many)
}

// noDigits are signs that look like digits, or end in a byte that is one, or are no text at all.
var noDigits = []string{
	"a", "A", "x", "/", ":", "+", "_", "e", ",", "'", "\t", "\n", "\v", "\r", "\u00a0", "\u2003", "\u3000",
	"\u0130", "\u0131", "\u0137", "\u0139", "\u3030", "\u0660", "\u0663", "\u06f1", "\u0967", "\uff10", "\uff11", "\uff19", "\U0001d7ce", "\U00010030",
	"\u00b2", "\u00bd", "\u2460", "\u2212", "\u2013", "\uff0d", "\uff0e", "\u066b", "\ufeff", "\ufffd", "\u00e9",
	"\x80", "\xb0", "\xb1", "\xc0\xb1", "\xe0\x80\xb1", "\xc2", "\xe2\x82", "\xf0\x9f", "\xed\xa0\x80", "\xf4\x90\x80\x80", "\xfe", "\xff",
}

func TestLeIsOfTheFirstEightBytes(t *testing.T) { // P3.1
	for s, want := range map[string]uint64{
		"":                                     0,
		"\x00":                                 0,
		"\x01":                                 1,
		"\xff":                                 255,
		"\x01\x02":                             513,
		"\x00\x00\x00\x80":                     1 << 31,
		"\xff\xff\xff\xff":                     1<<32 - 1,
		"\x01\x02\x03\x04\x05\x06\x07":         0x07060504030201,
		"\x01\x02\x03\x04\x05\x06\x07\x08":     0x0807060504030201,
		"\x01\x02\x00\x00\x00\x00\x00\x00\x09": 513,
		"\x00\x00\x00\x00\x00\x00\x00\x00\xff\xff": 0,
		"\x00\x00\x00\x00\x00\x00\x00\x80\x01":     1 << 63,
		"\xff\xff\xff\xff\xff\xff\xff\xff\x00":     math.MaxUint64,
		"\xff\xff\xff\xff\xff\xff\xff\xff":         math.MaxUint64,
	} {
		if got := fields.Le([]byte(s)); got != want {
			t.Errorf("P3.1: Le(%x) = %#x; want %#x", s, got, want)
		}
	}
	if got := fields.Le(nil); got != 0 {
		t.Errorf("P3.1: Le(nil) = %d; want 0", got)
	}
}

func TestLeLooksAtNoByteBehindTheEnd(t *testing.T) { // P3.1, R5
	whole := bytes.Repeat([]byte{0xff}, 20)
	for n := range 9 {
		if got, want := fields.Le(whole[3:3+n]), uint64(1)<<(8*n)-1; got != want {
			t.Errorf("P3.1: Le of %d bytes 255 = %#x; want %#x", n, got, want)
		}
	}
	if !bytes.Equal(whole, bytes.Repeat([]byte{0xff}, 20)) {
		t.Error("P3.1: Le changed its bytes")
	}
}

func TestPutLeOfEachLength(t *testing.T) { // P3.1
	for _, v := range []uint64{0, 1, 255, 256, 513, 1<<32 - 1, 1 << 32, 1 << 62, 1 << 63, 0x0807060504030201, math.MaxUint64} {
		eight := make([]byte, 64)
		for n := range 8 {
			eight[n] = byte(v >> (8 * n))
		}
		for n := 1; n <= 64; n++ {
			if got := fields.PutLe(v, n); !bytes.Equal(got, eight[:n]) {
				t.Errorf("P3.1: PutLe(%#x, %d) = %x; want %x", v, n, got, eight[:n])
			}
		}
		for _, n := range []int{65, 66, 100, 1 << 20, 1 << 32, 1 << 62, math.MaxInt - 1, math.MaxInt} {
			if got := fields.PutLe(v, n); !bytes.Equal(got, eight) {
				t.Errorf("P3.1: PutLe(%#x, %d) = %x; want %x", v, n, got, eight)
			}
		}
		for _, n := range []int{0, -1, -8, -64, -1 << 32, math.MinInt + 1, math.MinInt} {
			if got := fields.PutLe(v, n); len(got) != 0 {
				t.Errorf("P3.1: PutLe(%#x, %d) = %x; want none", v, n, got)
			}
		}
	}
}

func TestOctalExamples(t *testing.T) { // P3.2
	wantOctal(t, " 017\x00\x00", 15, api.OK)
	wantOctal(t, "8", 0, api.ErrFieldForm)
	wantOctal(t, "\x80\x01\x00", 256, api.OK)
}

func TestOctalOfDigits(t *testing.T) { // P3.2
	for s, want := range map[string]int{
		"": 0, "0": 0, "7": 7, "10": 8, "00000": 0, "0000644\x00": 420, "777": 511,
		" ": 0, "\x00": 0, "\x00\x00": 0, " \x00 ": 0, "   ": 0, "\x00 ": 0, " \x00\x00  \x00": 0,
		"  1": 1, "1  ": 1, "1\x00": 1, "1 \x00": 1, "1\x00 \x00 ": 1, "   12 ": 10, " 0 ": 0,
		"01234567": 342391,
	} {
		wantOctal(t, s, want, api.OK)
	}
	if v, e := fields.Octal(nil); v != 0 || e != api.OK {
		t.Errorf("P3.2: Octal(nil) = %d, %d; want 0, OK", v, e)
	}
}

func TestOctalOfWrongForms(t *testing.T) { // P3.2
	for _, s := range []string{
		"9", "18", "81", "1 1", "1\x001", "\x001", "\x00 1", " \x001", "1 \x00 1", "-1", "+1", "- 1", "1-", "0x1", "0o1", "1.5", ".",
		"1_0", "\x01", "1\x01", "\x7f", "\x811", "\xff\xff", "\xff\xff\xff\xff\xff\xff\xff\xff", "\x00\x80", " \x80\x01", "0\x80", "1\x80",
	} {
		wantOctal(t, s, 0, api.ErrFieldForm)
	}
	for _, x := range noDigits {
		for _, s := range []string{x + "1", "1" + x, "1" + x + "1", " " + x, "1 " + x, "1\x00" + x, x} {
			if s[0] != 128 {
				wantOctal(t, s, 0, api.ErrFieldForm)
			}
		}
	}
}

func TestOctalOfEachByte(t *testing.T) { // P3.2
	for n := range 256 {
		for _, b := range [][]byte{{byte(n)}, {byte(n), '1'}, {'1', byte(n)}, {'1', byte(n), '1'}, {' ', byte(n)}, {0, byte(n)}} {
			v, e := slowOctal(b)
			wantOctal(t, string(b), v, e)
		}
	}
}

func TestOctalOfShortTexts(t *testing.T) { // P3.2
	eachText([]string{" ", "\x00", "0", "7", "8", "\x80"}, 6, func(s string) {
		v, e := slowOctal([]byte(s))
		wantOctal(t, s, v, e)
	})
}

func TestOctalAtItsGreatest(t *testing.T) { // P3.2
	greatest := "4" + strings.Repeat("0", 20)
	above := greatest[:20] + "1"
	for _, ahead := range []string{"", " ", "    ", "0", "  000", strings.Repeat("0", 500)} {
		for _, behind := range []string{"", "\x00", " ", " \x00  "} {
			wantOctal(t, ahead+"3"+strings.Repeat("7", 20)+behind, top-1, api.OK)
			wantOctal(t, ahead+greatest+behind, top, api.OK)
			wantOctal(t, ahead+above+behind, 0, api.ErrFieldOver)
			wantOctal(t, ahead+"1"+strings.Repeat("0", 21)+behind, 0, api.ErrFieldOver)
			wantOctal(t, ahead+"2"+strings.Repeat("0", 21)+behind, 0, api.ErrFieldOver)
			wantOctal(t, ahead+strings.Repeat("7", 24)+behind, 0, api.ErrFieldOver)
			wantOctal(t, ahead+above+behind+"x", 0, api.ErrFieldForm)
			wantOctal(t, ahead+above+"8"+behind, 0, api.ErrFieldForm)
		}
	}
	// Numbers of which the lowest 64 bits alone are small, or nothing.
	for many := 20; many < 200; many++ {
		for _, first := range "1234567" {
			for _, last := range "017" {
				s := string(first) + strings.Repeat("0", many-1) + string(last)
				v, e := slowOctal([]byte(s))
				wantOctal(t, s, v, e)
			}
		}
	}
}

func TestOctalOfBytesHighestFirst(t *testing.T) { // P3.2
	for s, want := range map[string]int{
		"\x80":                                 0,
		"\x80\x00":                             0,
		"\x80\x07":                             7,
		"\x80\x80":                             128,
		"\x80\x30":                             48,
		"\x80\x20\x00":                         8192,
		"\x80\x01\x02\x03":                     0x010203,
		"\x80\xff\xff\xff\xff":                 1<<32 - 1,
		"\x80\x3f\xff\xff\xff\xff\xff\xff\xff": top - 1,
		"\x80\x40\x00\x00\x00\x00\x00\x00\x00": top,
		"\x80\x00\x40\x00\x00\x00\x00\x00\x00\x00": top,
	} {
		wantOctal(t, s, want, api.OK)
		wantOctal(t, "\x80"+strings.Repeat("\x00", 300)+s[1:], want, api.OK)
	}
	for _, s := range []string{
		"\x80\x40\x00\x00\x00\x00\x00\x00\x01",
		"\x80\x40\x00\x00\x00\x00\x00\x00\xff",
		"\x80\x41\x00\x00\x00\x00\x00\x00\x00",
		"\x80\x80\x00\x00\x00\x00\x00\x00\x00",
		"\x80\xff\xff\xff\xff\xff\xff\xff\xff",
		"\x80\x01\x00\x00\x00\x00\x00\x00\x00\x00",
		"\x80\x01\x00\x00\x00\x00\x00\x00\x00\x01",
		"\x80\x40\x00\x00\x00\x00\x00\x00\x00\x00",
	} {
		wantOctal(t, s, 0, api.ErrFieldOver)
		wantOctal(t, "\x80"+strings.Repeat("\x00", 300)+s[1:], 0, api.ErrFieldOver)
		wantOctal(t, s+strings.Repeat("\x00", 300), 0, api.ErrFieldOver)
	}
	r := rand.New(rand.NewSource(32))
	for range 5000 {
		b := make([]byte, 1+r.Intn(12))
		r.Read(b)
		b[0] = 128
		for n := range r.Intn(len(b)) {
			b[1+n] = byte(r.Intn(2) * r.Intn(80))
		}
		v, e := slowOctal(b)
		wantOctal(t, string(b), v, e)
	}
}

func TestOctalLeavesItsBytes(t *testing.T) { // P3.2, R5
	for _, s := range []string{"  017 \x00", "\x80\x01\x02\x03", "18", "\x80\xff\xff\xff\xff\xff\xff\xff\xff"} {
		whole := []byte("<<" + s + ">>")
		fields.Octal(whole[2 : 2+len(s)])
		if string(whole) != "<<"+s+">>" {
			t.Errorf("P3.2: Octal(%q) left %q", s, whole)
		}
	}
}

func TestPutOctalExamples(t *testing.T) { // P3.3
	wantPutOctal(t, 8, 3, "10\x00", true)
	wantPutOctal(t, 64, 3, "\x80\x00\x40", true)
}

// slowPutOctal is P3.3 word by word, for v and n that it takes.
func slowPutOctal(v, n int) (string, bool) {
	octal := big.NewInt(int64(v)).Text(8)
	if len(octal) <= n-1 {
		return strings.Repeat("0", n-1-len(octal)) + octal + "\x00", true
	}
	b := big.NewInt(int64(v)).Bytes()
	if len(b) <= n-1 {
		return "\x80" + strings.Repeat("\x00", n-1-len(b)) + string(b), true
	}
	return "", false
}

// numbersUpToTop has those at which a digit or a byte more is needed.
func numbersUpToTop() []int {
	list := []int{5, 100, 65535, 65536, 1234567890123, top - 7}
	for n := range 63 {
		list = append(list, 1<<n-1, 1<<n)
		if n < 62 {
			list = append(list, 1<<n+1)
		}
	}
	return list
}

func TestPutOctalOfEachLength(t *testing.T) { // P3.3
	for _, v := range numbersUpToTop() {
		for n := 2; n <= 64; n++ {
			s, is := slowPutOctal(v, n)
			wantPutOctal(t, v, n, s, is)
		}
	}
	wantPutOctal(t, 0, 2, "0\x00", true)
	wantPutOctal(t, 7, 2, "7\x00", true)
	wantPutOctal(t, 8, 2, "\x80\x08", true)
	wantPutOctal(t, 255, 2, "\x80\xff", true)
	wantPutOctal(t, 256, 2, "", false)
	wantPutOctal(t, 420, 8, "0000644\x00", true)
	wantPutOctal(t, 1<<33-1, 12, "77777777777\x00", true)
	wantPutOctal(t, 1<<33, 12, "\x80\x00\x00\x00\x00\x00\x00\x02\x00\x00\x00\x00", true)
	wantPutOctal(t, top, 8, "", false)
	wantPutOctal(t, top, 9, "\x80\x40\x00\x00\x00\x00\x00\x00\x00", true)
	wantPutOctal(t, top, 21, "\x80"+strings.Repeat("\x00", 12)+"\x40\x00\x00\x00\x00\x00\x00\x00", true)
	wantPutOctal(t, top, 22, "4"+strings.Repeat("0", 20)+"\x00", true)
	wantPutOctal(t, 1, 64, strings.Repeat("0", 62)+"1\x00", true)
}

func TestPutOctalOfWrongNumbers(t *testing.T) { // P3.3
	for _, n := range []int{2, 8, 12, 22, 23, 64} {
		for _, v := range []int{-1, -2, -8, -256, -top, math.MinInt, top + 1, top + 2, math.MaxInt} {
			wantPutOctal(t, v, n, "", false)
		}
	}
	for _, v := range []int{0, 1, 7, 8, top, -1, top + 1} {
		for _, n := range []int{1, 0, -1, -2, -64, math.MinInt, math.MinInt + 1, 65, 66, 1 << 31, 1 << 62, math.MaxInt} {
			wantPutOctal(t, v, n, "", false)
		}
	}
	if b, _ := fields.PutOctal(256, 2); b != nil {
		t.Errorf("P3.3: beside false there is %v", b)
	}
}

func TestDecimalOfNumbers(t *testing.T) { // P3.4
	for s, want := range map[string]int{
		"0": 0, "-0": 0, "1": 1, "-1": -1, "9": 9, "10": 10, "-12": -12, "007": 7, "-007": -7, "0000": 0, "1234567890": 1234567890,
		"2147483647": math.MaxInt32, "2147483648": 1 << 31, "-2147483649": -1<<31 - 1, "4294967296": 1 << 32,
		"4611686018427387903": top - 1, "4611686018427387904": top, "-4611686018427387903": 1 - top, "-4611686018427387904": -top,
		strings.Repeat("0", 400) + "4611686018427387904": top, "-" + strings.Repeat("0", 400) + "4611686018427387904": -top,
	} {
		wantDecimal(t, s, want, api.OK)
	}
}

func TestDecimalOfNumbersTooFar(t *testing.T) { // P3.4
	for _, s := range []string{
		"4611686018427387905", "4611686018427387906", "4611686018427387910", "9223372036854775807", "9223372036854775808", "9223372036854775809",
		"18446744073709551615", "18446744073709551616", "18446744073709551617", "184467440737095516160", "46116860184273879040", "5000000000000000000",
		"100000000000000000000", strings.Repeat("9", 500), "1" + strings.Repeat("0", 500), "340282366920938463463374607431768211457",
	} {
		for _, ahead := range []string{"", "-", "0", "-000"} {
			wantDecimal(t, ahead+s, 0, api.ErrFieldOver)
			wantDecimal(t, ahead+s+"x", 0, api.ErrFieldForm)
			wantDecimal(t, ahead+s+".", 0, api.ErrFieldForm)
		}
	}
}

func TestDecimalOfWrongForms(t *testing.T) { // P3.4
	for _, s := range []string{
		"", "-", "--", "--1", "-+1", "+1", "+", "1-", "1-1", " 1", "1 ", "- 1", " ", "1.5", "1.", ".5", ".", "-.", "1e3", "0x10", "0b1", "0o7", "1_0",
		"1,0", "one", "\x00", "1\x00", "\x001", "1\n", "\t1", "-\x00",
	} {
		wantDecimal(t, s, 0, api.ErrFieldForm)
	}
	for _, x := range noDigits {
		for _, s := range []string{x, x + "1", "1" + x, "1" + x + "1", "-" + x, "-1" + x, "-" + x + "1", x + "-1"} {
			wantDecimal(t, s, 0, api.ErrFieldForm)
		}
	}
}

func TestDecimalOfShortTexts(t *testing.T) { // P3.4
	eachText([]string{"-", "0", "9", ".", " ", "\xb1"}, 6, func(s string) {
		v, e := slowDecimal(s)
		wantDecimal(t, s, v, e)
	})
	for n := range 256 {
		for _, s := range []string{string([]byte{byte(n)}), string([]byte{byte(n), '1'}), string([]byte{'1', byte(n)}), string([]byte{'-', byte(n)})} {
			v, e := slowDecimal(s)
			wantDecimal(t, s, v, e)
		}
	}
}

func TestSecondsExamples(t *testing.T) { // P3.5
	wantSeconds(t, "-1.5", -1500000000, api.OK)
	wantPutSeconds(t, -1500000000, "-1.5")
}

func TestSecondsOfNumbers(t *testing.T) { // P3.5
	for s, want := range map[string]int64{
		"0": 0, "-0": 0, "0.0": 0, "-0.0": 0, "1": nano, "-1": -nano, "1.0": nano, "0001": nano, "-0001.5": -nano - nano/2, "12.34": 12340000000,
		"0.5": nano / 2, "-0.5": -nano / 2, "0.1": 100000000, "0.01": 10000000, "0.000000001": 1, "-0.000000001": -1, "0.123456789": 123456789,
		"0.999999999": nano - 1, "-0.999999999": 1 - nano, "1.000000000": nano, "1577836800.25": 1577836800250000000,
	} {
		wantSeconds(t, s, want, api.OK)
	}
}

func TestSecondsBehindTheNinthDigit(t *testing.T) { // P3.5
	for s, want := range map[string]int64{
		"0.0000000009": 0, "-0.0000000009": 0, "0.0000000019": 1, "-0.0000000019": -1, "0.9999999999": nano - 1, "-1.9999999999": 1 - 2*nano,
		"0.1234567891": 123456789, "0.12345678999": 123456789, "5.0000000000": 5 * nano,
		"1." + strings.Repeat("9", 500): 2*nano - 1, "1." + strings.Repeat("0", 500) + "9": nano, "-1.5" + strings.Repeat("0", 500): -nano - nano/2,
	} {
		wantSeconds(t, s, want, api.OK)
		wantSeconds(t, s+"x", 0, api.ErrFieldForm)
		wantSeconds(t, s+".", 0, api.ErrFieldForm)
	}
}

func TestSecondsAtTheirGreatest(t *testing.T) { // P3.5
	for s, want := range map[string]int64{
		"8999999999": 8999999999 * nano, "9000000000": 9000000000 * nano, "9000000000.0": 9000000000 * nano, "9000000000.000000001": 9000000000*nano + 1,
		"9000000000.999999999": 9000000000*nano + nano - 1, "9000000000.9999999999": 9000000000*nano + nano - 1, "0009000000000": 9000000000 * nano,
		strings.Repeat("0", 300) + "9000000000": 9000000000 * nano,
	} {
		wantSeconds(t, s, want, api.OK)
		wantSeconds(t, "-"+s, -want, api.OK)
	}
	for _, s := range []string{
		"9000000001", "9000000001.0", "9000000001.5", "9000000010", "9223372036", "9223372037", "10000000000", "90000000000", "18446744073", "18446744074",
		"4611686018427387904", "4611686018427387905", "9223372036854775808", "18446744073709551616", "18446744073709551617", "36893488147419103233",
		"1" + strings.Repeat("0", 500), strings.Repeat("9", 500) + "." + strings.Repeat("9", 500),
	} {
		for _, ahead := range []string{"", "-", "00"} {
			wantSeconds(t, ahead+s, 0, api.ErrFieldOver)
			wantSeconds(t, ahead+s+"x", 0, api.ErrFieldForm)
			wantSeconds(t, ahead+s+".", 0, api.ErrFieldForm)
		}
	}
}

func TestSecondsOfWrongForms(t *testing.T) { // P3.5
	for _, s := range []string{
		"", "-", ".", "-.", "1.", "-1.", ".5", "-.5", "1.5.5", "1..5", "1.-5", "1.+5", "1.5-", "--1", "+1", "1-", " 1", "1 ", "1. 5", "1 .5", "- 1", "1,5",
		"1e9", "1.5e3", "0x1", "1_0", "1.5s", "NaN", "Inf", "-Inf", "\x00", "1\x00", "1.5\x00", "1.5\n", "\t1",
	} {
		wantSeconds(t, s, 0, api.ErrFieldForm)
	}
	for _, x := range noDigits {
		for _, s := range []string{x, x + "1", "1" + x, "-" + x, "1." + x, "1.5" + x, "1." + x + "5", x + ".5", "1" + x + ".5", "1.123456789" + x} {
			wantSeconds(t, s, 0, api.ErrFieldForm)
		}
	}
}

func TestSecondsOfShortTexts(t *testing.T) { // P3.5
	eachText([]string{"-", "0", "9", ".", " ", "\xb1"}, 6, func(s string) {
		v, e := slowSeconds(s)
		wantSeconds(t, s, v, e)
	})
	for n := range 256 {
		for _, s := range []string{string([]byte{byte(n)}), string([]byte{'1', byte(n)}), string([]byte{'1', byte(n), '1'}), string([]byte{'1', '.', byte(n)})} {
			v, e := slowSeconds(s)
			wantSeconds(t, s, v, e)
		}
	}
}

func TestPutSecondsOfNumbers(t *testing.T) { // P3.5
	for v, want := range map[int64]string{
		0: "0", 1: "0.000000001", -1: "-0.000000001", 5: "0.000000005", 10: "0.00000001", 100000000: "0.1", -100000000: "-0.1", 120000000: "0.12",
		nano - 1: "0.999999999", nano: "1", nano + 1: "1.000000001", -nano: "-1", 1 - nano: "-0.999999999", -1 - nano: "-1.000000001",
		10 * nano: "10", 100 * nano: "100", -10 * nano: "-10", 100*nano + 1000: "100.000001", 1577836800250000000: "1577836800.25", 123456789: "0.123456789",
		9000000000 * nano: "9000000000", -9000000000 * nano: "-9000000000", 9000000001*nano - 1: "9000000000.999999999",
		math.MaxInt64: "9223372036.854775807", math.MinInt64: "-9223372036.854775808", math.MinInt64 + 1: "-9223372036.854775807",
		9223372036 * nano: "9223372036", -9223372036 * nano: "-9223372036",
	} {
		wantPutSeconds(t, v, want)
	}
}

func TestPutSecondsIsTheShortestText(t *testing.T) { // P3.5
	form := regexp.MustCompile(`^-?(0|[1-9][0-9]*)(\.[0-9]{0,8}[1-9])?$`)
	r := rand.New(rand.NewSource(35))
	for n := range 20000 {
		v := int64(r.Uint64()) >> (n % 64)
		if n%3 == 0 {
			v -= v % 1000000
		}
		s := fields.PutSeconds(v)
		was, _ := new(big.Rat).SetString(s)
		if !form.MatchString(s) || was.Cmp(big.NewRat(v, nano)) != 0 || (v < 0) != (s[0] == '-') {
			t.Fatalf("P3.5: PutSeconds(%d) = %q", v, s)
		}
	}
}

func TestLeOfPutLe(t *testing.T) { // P3.6
	r := rand.New(rand.NewSource(36))
	for n := range 10000 {
		v := r.Uint64() >> (n % 64)
		if got := fields.Le(fields.PutLe(v, 8)); got != v {
			t.Fatalf("P3.6: Le(PutLe(%#x, 8)) = %#x", v, got)
		}
	}
	for _, v := range []uint64{0, 1, 1 << 62, 1 << 63, math.MaxUint64} {
		if got := fields.Le(fields.PutLe(v, 8)); got != v {
			t.Errorf("P3.6: Le(PutLe(%#x, 8)) = %#x", v, got)
		}
	}
}

func TestOctalOfPutOctal(t *testing.T) { // P3.6
	list := numbersUpToTop()
	r := rand.New(rand.NewSource(37))
	for n := range 500 {
		list = append(list, r.Intn(top)>>(n%62))
	}
	for _, v := range list {
		for n := 2; n <= 64; n++ {
			b, is := fields.PutOctal(v, n)
			if !is {
				continue
			}
			if got, e := fields.Octal(b); got != v || e != api.OK || len(b) != n {
				t.Fatalf("P3.6: PutOctal(%d, %d) is %x, read as %d, %d", v, n, b, got, e)
			}
		}
	}
}

func TestSecondsOfPutSeconds(t *testing.T) { // P3.6
	const far = 9000000000 * nano
	list := []int64{0, 1, -1, nano, -nano, nano - 1, nano + 1, far, far - 1, -far, 1 - far}
	r := rand.New(rand.NewSource(38))
	for n := range 20000 {
		v := int64(r.Uint64()) >> (n % 64) % far
		list = append(list, v, v-v%1000)
	}
	for _, v := range list {
		if got, e := fields.Seconds(fields.PutSeconds(v)); got != v || e != api.OK {
			t.Fatalf("P3.6: PutSeconds(%d) is %q, read as %d, %d", v, fields.PutSeconds(v), got, e)
		}
	}
}

// TestWhatIsToldIsTheCallersOwn writes into answers, also behind their end, and asks again.
func TestWhatIsToldIsTheCallersOwn(t *testing.T) { // P3.1, P3.3, R6, R7
	asks := []func() []byte{
		func() []byte { return fields.PutLe(0x0102, 4) },
		func() []byte { return fields.PutLe(0, 64) },
		func() []byte { b, _ := fields.PutOctal(8, 12); return b },
		func() []byte { b, _ := fields.PutOctal(0, 64); return b },
		func() []byte { b, _ := fields.PutOctal(1<<40, 12); return b },
	}
	for n, ask := range asks {
		one, other := ask(), ask()
		want := bytes.Clone(one)
		for at := range one[:cap(one)] {
			one[:cap(one)][at] = 0xee
		}
		if !bytes.Equal(other, want) || !bytes.Equal(ask(), want) {
			t.Errorf("R6: what was written into answer %d is in another one", n)
		}
	}
}
