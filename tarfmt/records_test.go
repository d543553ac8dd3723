package tarfmt_test

import (
	"fmt"
	"math/rand"
	"slices"
	"strings"
	"testing"

	"wainload/tarfmt"
)

func wantRecords(t *testing.T, l [][2]string, want string) {
	t.Helper()
	was := slices.Clone(l)
	if s := tarfmt.Records(l); s != want {
		t.Errorf("P17.1: Records(%.100q): %.100q; want %.100q", l, s, want)
	}
	if !slices.Equal(l, was) {
		t.Errorf("R5: %q were changed to %q", was, l)
	}
}

func wantParse(t *testing.T, s string, want [][2]string) {
	t.Helper()
	if l, is := tarfmt.Parse(s); !is || !slices.Equal(l, want) {
		t.Errorf("P17.1: Parse(%.100q): %.100q, %v; want %.100q", s, l, is, want)
	}
}

// wantNoParse also asks that nothing is told.
func wantNoParse(t *testing.T, s string) {
	t.Helper()
	if l, is := tarfmt.Parse(s); is || len(l) != 0 {
		t.Errorf("P17.1: Parse(%.100q): %.100q, %v", s, l, is)
	}
}

func wantParseAsModel(t *testing.T, s string) bool {
	t.Helper()
	want, is := slowParse(s)
	if is {
		wantParse(t, s, want)
	} else {
		wantNoParse(t, s)
	}
	return is
}

func TestRecordsExample(t *testing.T) { // P17.1
	wantRecords(t, [][2]string{{"path", "a"}}, "9 path=a\n")
	wantParse(t, "9 path=a\n", [][2]string{{"path", "a"}})
}

func TestNoRecord(t *testing.T) { // P17.1, P17.4
	wantRecords(t, nil, "")
	wantRecords(t, [][2]string{}, "")
	wantParse(t, "", nil)
}

func TestRecordsOfNoByte(t *testing.T) { // P17.1
	wantRecords(t, [][2]string{{}}, "4 =\n")
	wantRecords(t, [][2]string{{"k", ""}}, "5 k=\n")
	wantRecords(t, [][2]string{{"", "v"}}, "5 =v\n")
	wantRecords(t, [][2]string{{}, {}, {"", "v"}, {}}, "4 =\n4 =\n5 =v\n4 =\n")
}

func TestRecordsOfAnyKeysAndValues(t *testing.T) { // P17.1
	wantRecords(t, [][2]string{{"a=b", "c=d"}}, "11 a=b=c=d\n")
	wantRecords(t, [][2]string{{"\n", "\n\n"}}, "7 \n=\n\n\n")
	wantRecords(t, [][2]string{{" ", "\x00\xff"}}, "7  =\x00\xff\n")
	wantRecords(t, [][2]string{{"é", "\u20ac"}}, "9 é=\u20ac\n")
	wantRecords(t, [][2]string{{"9 path", "a\n9 path=a"}}, "21 9 path=a\n9 path=a\n")
	wantRecords(t, [][2]string{{"b", "1"}, {"a", "2"}, {"b", "3"}, {"b", "1"}}, "6 b=1\n6 a=2\n6 b=3\n6 b=1\n")
}

func TestRecordsWhoseNumberGetsADigitMoreByItself(t *testing.T) { // P17.1
	for _, x := range []struct{ value, number int }{ // a key of one byte, and three more beside digits and value
		{0, 5}, {3, 8}, {4, 9}, {5, 11}, {6, 12}, {92, 98}, {93, 99}, {94, 101}, {95, 102}, {991, 998}, {992, 999}, {993, 1001}, {994, 1002},
		{9990, 9998}, {9991, 9999}, {9992, 10001}, {9993, 10002}, {99989, 99998}, {99990, 99999}, {99991, 100001}, {99992, 100002}, {999989, 999999}, {999990, 1000001},
	} {
		v := strings.Repeat("v", x.value)
		want := fmt.Sprintf("%d k=%s\n", x.number, v)
		if len(want) != x.number {
			t.Fatal(x)
		}
		wantRecords(t, [][2]string{{"k", v}}, want)
		wantParse(t, want, [][2]string{{"k", v}})
	}
}

func TestRecordsOfEachLength(t *testing.T) { // P17.1, P17.4
	for _, key := range []string{"k", "key", "a longer key"} {
		for n := range 1100 {
			l := [][2]string{{key, strings.Repeat("=", n)}, {key, ""}}
			wantRecords(t, l, slowRecords(l))
			wantParse(t, slowRecords(l), l)
		}
	}
	for n := range 1100 {
		l := [][2]string{{"", ""}, {strings.Repeat("=", n), "v"}}
		wantRecords(t, l, slowRecords(l))
	}
}

// Of two numbers that count their own digits the greater one is a number of a record, too.
func TestParseOfANumberThatIsNotTheLeast(t *testing.T) { // P17.1
	wantParse(t, "9 k=vvvv\n", [][2]string{{"k", "vvvv"}})
	wantParse(t, "10 k=vvvv\n", [][2]string{{"k", "vvvv"}})
	wantParse(t, "10 path=a\n9 path=b\n", [][2]string{{"path", "a"}, {"path", "b"}})
	v := strings.Repeat("v", 93)
	wantParse(t, "99 k="+v+"\n100 k="+v+"\n", [][2]string{{"k", v}, {"k", v}})
}

func TestParseOfValues(t *testing.T) { // P17.1
	wantParse(t, "5 k=\n", [][2]string{{"k", ""}})
	wantParse(t, "6 k==\n", [][2]string{{"k", "="}})
	wantParse(t, "6 k=\n\n", [][2]string{{"k", "\n"}})
	wantParse(t, "11 k=a=b=\n\n", [][2]string{{"k", "a=b=\n"}})
	wantParse(t, "15 k=\n9 path=a\n", [][2]string{{"k", "\n9 path=a"}})
	wantParse(t, "7  k=v\n", [][2]string{{" k", "v"}})
	wantParse(t, "7 \n\n=v\n7 k= v\n", [][2]string{{"\n\n", "v"}, {"k", " v"}})
	wantParse(t, "8 \x00\xff=\x00\xff\n", [][2]string{{"\x00\xff", "\x00\xff"}})
}

func TestParseOfWrongTexts(t *testing.T) { // P17.1
	for _, s := range []string{
		"x", " ", "\n", "=", "0", "1", "9", "\x00", "path=a\n", " path=a\n", // no number
		"09 path=a\n", "010 path=a\n", "0010 path=a\n", "00 path=a\n", "0 path=a\n", "05 k=\n", "06 k=\n", "006 k=\n", // a nought ahead
		"8 path=a\n", "1 path=a\n", "2 path=a\n", "3 path=a\n", "4 k=v\n", "5 k=v\n", // too small
		"11 path=a\n", "12 path=a\n", "99 path=a\n", "7 k=v\n", // too great
		"9223372036854775807 k=v\n", "9223372036854775808 k=v\n", "18446744073709551615 k=v\n", "18446744073709551616 k=v\n", "18446744073709551622 k=v\n", "18446744073709551642 k=v\n", "4611686018427387904 k=v\n", "4611686018427387905 k=v\n", "4294967302 k=v\n", "4294967313 k=v\n", strings.Repeat("9", 1000) + " k=v\n",
		"-9 path=a\n", "-10 path=a\n", "+9 path=a\n", "+10 path=a\n", "-0 path=a\n", "9. path=a\n", "0x9 path=a\n", "1e1 path=a\n", "1_0 path=a\n", " 9 path=a\n", "\t9 path=a\n", "9\tpath=a\n", "9\npath=a\n", "\u0669 path=a\n", "\uff19 path=a\n", "a path=a\n", // no number
		"9path=a\n", "9\x00path=a\n", "6\x00k=v\n", "6=k=v\n", "5=k\n\n", "12345", "9999\n", // no blank
		"5 abc\n", "8 path a\n", "3 \n", "4 k\n", "2 ", "2 \n", "3 =", "3 =\n", // no =
		"4 =\n", "5 =v\n", "6 ==v\n", "6 =k=\n", // a key with no byte
		"6 k=vv", "6 k=v\x00", "6 k=v ", "5 k==", "6 k=v\r", "6 k=v", "9 path=a", "9 path=a\r", // no byte 10 at the end
	} {
		if slow, is := slowParse(s); is {
			t.Errorf("%q are records: %q", s, slow)
		}
		wantNoParse(t, s)
		for _, right := range []string{"9 path=a\n", "5 k=\n", "6 k=\n\n"} {
			wantNoParse(t, right+s)
			wantParseAsModel(t, s+right) // some of them are right, if more is behind
		}
	}
}

// No key that Records may write counts, if it has no byte or a =.
func TestParseOfKeysThatAreNone(t *testing.T) { // P17.1, P17.4
	wantNoParse(t, tarfmt.Records([][2]string{{"", ""}}))
	wantNoParse(t, tarfmt.Records([][2]string{{"", "v"}}))
	wantNoParse(t, tarfmt.Records([][2]string{{"k", "v"}, {"", "v"}}))
	wantNoParse(t, tarfmt.Records([][2]string{{"=k", "v"}}))
	wantParse(t, tarfmt.Records([][2]string{{"k=", "v"}}), [][2]string{{"k", "=v"}})
}

func TestParseOfANumberOfItsOwn(t *testing.T) { // P17.1
	for _, body := range []string{" k=v\n", " path=a\n", " k=" + strings.Repeat("v", 90) + "\n", " k=" + strings.Repeat("\n", 200) + "\n"} {
		right := 0
		for n := range 3 * len(body) {
			if wantParseAsModel(t, fmt.Sprint(n)+body) {
				right++
			}
			wantNoParse(t, fmt.Sprintf("0%d", n)+body)
		}
		if right == 0 {
			t.Errorf("%q was never right", body)
		}
	}
}

func TestParseCutAtEveryPlace(t *testing.T) { // P17.1
	l := [][2]string{{"path", "a/b/c"}, {"k", ""}, {"mtime", "-1.5"}, {"e", "=\n"}, {"comment", strings.Repeat("a=b\n", 30)}, {"z", "\n\n\n"}}
	whole := tarfmt.Records(l)
	ends := map[int]int{}
	for n := range len(l) + 1 {
		ends[len(tarfmt.Records(l[:n]))] = n
	}
	for cut := range len(whole) + 1 {
		if n, is := ends[cut]; is {
			wantParse(t, whole[:cut], l[:n])
			wantParse(t, whole[cut:], l[n:])
		} else {
			wantNoParse(t, whole[:cut])
			wantParseAsModel(t, whole[cut:])
		}
	}
}

func TestParseOfShortTexts(t *testing.T) { // P17.1
	letters := "0156 a=\n"
	right := 0
	var each func(s string, more int)
	each = func(s string, more int) {
		if wantParseAsModel(t, s) {
			right++
		}
		for at := range len(letters) {
			if more > 0 {
				each(s+letters[at:at+1], more-1)
			}
		}
	}
	each("", 6)
	if right < 50 {
		t.Error("right:", right)
	}
}

func TestParseOfRecords(t *testing.T) { // P17.4
	r := rand.New(rand.NewSource(17))
	text := func(letters string, least, most int) string {
		var s strings.Builder
		for range least + r.Intn(most-least+1) {
			s.WriteByte(letters[r.Intn(len(letters))])
		}
		return s.String()
	}
	for range 20000 {
		var l [][2]string
		for range r.Intn(6) {
			most := 1 + r.Intn(1+r.Intn(120))
			l = append(l, [2]string{text("pathk \n\x00\xff901", 1, most), text("v= \n\x00\xff901", 0, most)})
		}
		s := tarfmt.Records(l)
		wantRecords(t, l, slowRecords(l))
		wantParse(t, s, l)
		if s != "" { // one byte another one
			b := []byte(s)
			b[r.Intn(len(b))] = "0189 =\nk\x00"[r.Intn(9)]
			wantParseAsModel(t, string(b))
		}
	}
}

func TestParseOfManyRecords(t *testing.T) { // P17.1: R1, each call ends
	l := make([][2]string, 100000)
	for n := range l {
		l[n] = [2]string{fmt.Sprint("k", n), fmt.Sprint(n)}
	}
	s := tarfmt.Records(l)
	wantParse(t, s, l)
	wantNoParse(t, s+"x")
	wantNoParse(t, s[1:])
	for _, long := range []string{"9", " ", "x", "=", "\n", "0", "1 ", "9 ", "5 k=\n"} {
		wantParseAsModel(t, strings.Repeat(long, 100000/len(long)))
	}
}

func TestParseTellsMemoryOfItsOwn(t *testing.T) { // P17.1, R6, R7
	s := "9 path=a\n6 k=v\n"
	l, _ := tarfmt.Parse(s)
	m, _ := tarfmt.Parse(s)
	l[0], l[1] = [2]string{"x", "y"}, [2]string{"", ""}
	_ = append(l[:1], [2]string{"z", "z"})
	if !slices.Equal(m, [][2]string{{"path", "a"}, {"k", "v"}}) {
		t.Errorf("%q", m)
	}
	wantParse(t, s, m)
}
