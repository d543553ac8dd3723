package times_test

import (
	"math"
	"math/rand"
	"testing"
	"time"

	"wainload/times"
)

// edgeTimes are those beside which something changes.
var edgeTimes = []int64{
	leastTime, leastTime + 1, leastTime + 99, leastTime + 100, leastTime + nanos, mostTime - nanos, mostTime - 100, mostTime - 1, mostTime,
	-86400*nanos - 1, -86400 * nanos, -1000000001, -1000000000, -999999999, -101, -100, -99, -1, 0, 1, 99, 100, 101, 199, 200, 999999999, 1000000000, 1000000001, 86400*nanos - 1, 86400 * nanos,
	dos1980 - 1, dos1980, dos1980 + 1, dos1980 + 2*nanos - 1, dos1980 + 2*nanos, dos2108 - 2*nanos - 1, dos2108 - 2*nanos, dos2108 - 1, dos2108, dos2108 + 1,
	-mostUnix*nanos - 1, -mostUnix * nanos, -mostUnix*nanos + 1, mostUnix*nanos - 1, mostUnix * nanos, mostUnix*nanos + 1,
}

var edgeSteps = []int64{1, 2, 3, 7, 99, 100, 101, nanos, 2 * nanos, 60 * nanos, dayNanos, 1 << 32, 1<<62 - 1, 1 << 62, 1<<62 + 1, mostTime / 2, mostTime - 1, mostTime}

// clocks are those of a day at which a second, a minute, an hour, the day begin or end.
var clocks = []times.Date{{}, {Second: 1}, {Second: 59}, {Minute: 1}, {Minute: 59, Second: 59}, {Hour: 1}, {Hour: 12, Minute: 34, Second: 56}, {Hour: 23}, {Hour: 23, Minute: 59, Second: 59}}

// at is the day's second at which the clock is so.
func at(day, clock times.Date) times.Date {
	day.Hour, day.Minute, day.Second = clock.Hour, clock.Minute, clock.Second
	return day
}

func day(year, month, day int) times.Date { return times.Date{Year: year, Month: month, Day: day} }

// otherDate is the date as Go's own library has it.
func otherDate(t int64) times.Date {
	x := time.Unix(0, t).UTC()
	return times.Date{Year: x.Year(), Month: int(x.Month()), Day: x.Day(), Hour: x.Hour(), Minute: x.Minute(), Second: x.Second()}
}

func chanceTime(r *rand.Rand) int64 { return int64(r.Uint64()) >> r.Intn(60) }

func wantFromDate(t *testing.T, d times.Date, want int64) {
	t.Helper()
	if got, is := times.FromDate(d); got != want || !is {
		t.Errorf("P15.1: FromDate(%v): %d, %v; want %d", d, got, is, want)
	}
	if got := times.ToDate(want); got != d {
		t.Errorf("P15.5: ToDate(%d), which is of %v: %v", want, d, got)
	}
	if got := times.ToDate(want + nanos - 1); got != d {
		t.Errorf("P15.1: ToDate(%d), the last of %v: %v", want+nanos-1, d, got)
	}
}

// wantNoDate also asks that no time is told.
func wantNoDate(t *testing.T, d times.Date) {
	t.Helper()
	if got, is := times.FromDate(d); got != 0 || is {
		t.Errorf("P15.1: FromDate(%v): %d, %v; want 0, false", d, got, is)
	}
}

func wantFromDateAsModel(t *testing.T, d times.Date) {
	t.Helper()
	want, is := slowFromDate(d)
	if !is {
		wantNoDate(t, d)
		return
	}
	wantFromDate(t, d, want)
}

func wantToDate(t *testing.T, n int64, want times.Date) {
	t.Helper()
	if got := times.ToDate(n); got != want {
		t.Errorf("P15.1: ToDate(%d): %v; want %v", n, got, want)
	}
}

func wantFromDosAsModel(t *testing.T, day, clock uint16) {
	t.Helper()
	want, wantIs := slowFromDate(dosDate(day, clock))
	if got, is := times.FromDos(day, clock); got != want || is != wantIs {
		t.Errorf("P15.2: FromDos(%d, %d): %d, %v; want %d, %v", day, clock, got, is, want, wantIs)
	}
}

func wantFromDos(t *testing.T, day, clock uint16, want int64) {
	t.Helper()
	if got, is := times.FromDos(day, clock); got != want || !is {
		t.Errorf("P15.2: FromDos(%d, %d): %d, %v; want %d", day, clock, got, is, want)
	}
}

func wantNotFromDos(t *testing.T, day, clock uint16) {
	t.Helper()
	if got, is := times.FromDos(day, clock); got != 0 || is {
		t.Errorf("P15.2: FromDos(%d, %d): %d, %v; want 0, false", day, clock, got, is)
	}
}

func wantToDos(t *testing.T, n int64, day, clock uint16) {
	t.Helper()
	a, b, is := times.ToDos(n)
	if a != day || b != clock || !is {
		t.Errorf("P15.2: ToDos(%d): %d, %d, %v; want %d, %d", n, a, b, is, day, clock)
	}
	if got, is := times.FromDos(a, b); got != times.Floor(n, 2*nanos) || got != slowFloor(n, 2*nanos) || !is {
		t.Errorf("P15.5: FromDos of ToDos(%d): %d, %v", n, got, is)
	}
}

// wantNotToDos also asks that both numbers are 0.
func wantNotToDos(t *testing.T, n int64) {
	t.Helper()
	if a, b, is := times.ToDos(n); a != 0 || b != 0 || is {
		t.Errorf("P15.2: ToDos(%d): %d, %d, %v; want 0, 0, false", n, a, b, is)
	}
}

func wantToDosAsModel(t *testing.T, n int64) {
	t.Helper()
	day, clock, is := slowToDos(n)
	if !is {
		wantNotToDos(t, n)
		return
	}
	wantToDos(t, n, day, clock)
}

func wantFromNt(t *testing.T, v uint64, want int64) {
	t.Helper()
	if got, is := times.FromNt(v); got != want || !is {
		t.Errorf("P15.3: FromNt(%d): %d, %v; want %d", v, got, is, want)
	}
	if got := times.ToNt(want); got != v {
		t.Errorf("P15.3: ToNt(%d): %d; want %d", want, got, v)
	}
}

func wantNotFromNt(t *testing.T, v uint64) {
	t.Helper()
	if got, is := times.FromNt(v); got != 0 || is {
		t.Errorf("P15.3: FromNt(%d): %d, %v; want 0, false", v, got, is)
	}
}

func wantFromNtAsModel(t *testing.T, v uint64) {
	t.Helper()
	want, is := slowFromNt(v)
	if !is {
		wantNotFromNt(t, v)
		return
	}
	wantFromNt(t, v, want)
}

func wantToNt(t *testing.T, n int64, want uint64) {
	t.Helper()
	got := times.ToNt(n)
	if got != want {
		t.Errorf("P15.3: ToNt(%d): %d; want %d", n, got, want)
	}
	if back, is := times.FromNt(got); is && back != times.Floor(n, 100) {
		t.Errorf("P15.5: FromNt of ToNt(%d): %d", n, back)
	}
}

func wantFromUnix(t *testing.T, s int, want int64) {
	t.Helper()
	if got, is := times.FromUnix(s); got != want || !is {
		t.Errorf("P15.4: FromUnix(%d): %d, %v; want %d", s, got, is, want)
	}
	if got := times.ToUnix(want); got != s {
		t.Errorf("P15.4: ToUnix(%d): %d; want %d", want, got, s)
	}
}

func wantNotFromUnix(t *testing.T, s int) {
	t.Helper()
	if got, is := times.FromUnix(s); got != 0 || is {
		t.Errorf("P15.4: FromUnix(%d): %d, %v; want 0, false", s, got, is)
	}
}

func wantFromUnixAsModel(t *testing.T, s int) {
	t.Helper()
	want, is := slowFromUnix(s)
	if !is {
		wantNotFromUnix(t, s)
		return
	}
	wantFromUnix(t, s, want)
}

func wantToUnix(t *testing.T, n int64, want int) {
	t.Helper()
	if got := times.ToUnix(n); got != want {
		t.Errorf("P15.4: ToUnix(%d): %d; want %d", n, got, want)
	}
}

func wantFloor(t *testing.T, n, step, want int64) {
	t.Helper()
	if got := times.Floor(n, step); got != want {
		t.Errorf("P15.4: Floor(%d, %d): %d; want %d", n, step, got, want)
	}
}

// TestModel holds the calendar that all else is held against to Go's own.
func TestModel(t *testing.T) {
	for n, d := range calendar {
		day := int64(leastDay + n)
		if other := time.Unix(day*86400, 0).UTC(); other.Year() != d.Year || int(other.Month()) != d.Month || other.Day() != d.Day {
			t.Fatalf("day %d: %v; Go has %v", day, d, other)
		}
	}
	for _, n := range edgeTimes {
		if got := slowToDate(n); got != otherDate(n) {
			t.Errorf("%d: %v; Go has %v", n, got, otherDate(n))
		}
	}
}

func TestExamples(t *testing.T) {
	wantFromDate(t, day(2000, 3, 1), 951868800000000000)
	wantToDate(t, -1, times.Date{Year: 1969, Month: 12, Day: 31, Hour: 23, Minute: 59, Second: 59})
	wantToDos(t, 951868800000000000, 10337, 0)
	wantFromNt(t, 116444736000000000, 0)
}

func TestDates(t *testing.T) { // P15.1
	wantFromDate(t, day(1970, 1, 1), 0)
	wantFromDate(t, day(1970, 1, 2), dayNanos)
	wantFromDate(t, day(1969, 12, 31), -dayNanos)
	wantFromDate(t, times.Date{Year: 1970, Month: 1, Day: 1, Second: 1}, nanos)
	wantFromDate(t, times.Date{Year: 1970, Month: 1, Day: 1, Minute: 1}, 60*nanos)
	wantFromDate(t, times.Date{Year: 1970, Month: 1, Day: 1, Hour: 1}, 3600*nanos)
	wantFromDate(t, times.Date{Year: 1969, Month: 12, Day: 31, Hour: 23, Minute: 59, Second: 59}, -nanos)
	wantFromDate(t, times.Date{Year: 2001, Month: 9, Day: 9, Hour: 1, Minute: 46, Second: 40}, 1000000000*nanos)
	wantFromDate(t, times.Date{Year: 2038, Month: 1, Day: 19, Hour: 3, Minute: 14, Second: 7}, (1<<31-1)*nanos)
	wantFromDate(t, times.Date{Year: 2009, Month: 2, Day: 13, Hour: 23, Minute: 31, Second: 30}, 1234567890*nanos)
	wantFromDate(t, day(1700, 1, 1), -8520336000000000000)
	wantFromDate(t, day(1980, 1, 1), dos1980)
	wantFromDate(t, day(2108, 1, 1), dos2108)
	wantFromDate(t, times.Date{Year: 2250, Month: 12, Day: 31, Hour: 23, Minute: 59, Second: 59}, 8867491199000000000)
}

func TestEachDay(t *testing.T) { // P15.1, P15.5
	for n, d := range calendar {
		for _, clock := range clocks {
			wantFromDateAsModel(t, at(d, clock))
		}
		if n == 0 {
			continue // the least time lies in its midst
		}
		begins := int64(leastDay+n) * dayNanos
		wantToDate(t, begins, d)
		wantToDate(t, begins-1, at(calendar[n-1], clocks[len(clocks)-1]))
	}
}

func TestEachSecondOfADay(t *testing.T) { // P15.1, P15.5
	for _, d := range []times.Date{day(1970, 1, 1), day(1969, 12, 31), day(1700, 1, 1), day(2000, 2, 29), day(2250, 12, 31)} {
		begins, _ := slowFromDate(d)
		for s := range 86400 {
			d.Hour, d.Minute, d.Second = s/3600, s/60%60, s%60
			wantFromDate(t, d, begins+int64(s)*nanos)
		}
	}
}

func TestYearsThatAreNone(t *testing.T) { // P15.1
	last := times.Date{Month: 12, Day: 31, Hour: 23, Minute: 59, Second: 59}
	for _, year := range []int{1699, 2251, 1677, 1678, 2261, 2262, 1600, 2300, 2400, 0, 1, -1, -1970, 70, 99, 1970 + 1<<32, 2000 + 1<<16, math.MinInt, math.MinInt + 1, math.MaxInt - 1, math.MaxInt} {
		wantNoDate(t, day(year, 1, 1))
		wantNoDate(t, day(year, 2, 29))
		last.Year = year
		wantNoDate(t, last)
	}
	for _, year := range []int{1700, 1701, 2249, 2250} {
		wantFromDateAsModel(t, day(year, 1, 1))
		last.Year = year
		wantFromDateAsModel(t, last)
		if _, is := times.FromDate(last); !is {
			t.Errorf("P15.1: the year %d is none", year)
		}
	}
}

func TestMonthsAndDaysAtTheirEdges(t *testing.T) { // P15.1
	for _, year := range []int{1700, 1704, 1800, 1899, 1900, 1904, 1970, 1999, 2000, 2001, 2004, 2096, 2100, 2104, 2200, 2250} {
		for month := 1; month <= 12; month++ {
			last := daysOf(year, month)
			for _, clock := range clocks {
				wantFromDateAsModel(t, at(day(year, month, 1), clock))
				wantFromDateAsModel(t, at(day(year, month, last), clock))
				for _, wrong := range []int{math.MinInt, -1, 0, last + 1, 31 + 1, 99, math.MaxInt} {
					wantNoDate(t, at(day(year, month, wrong), clock))
				}
			}
			if _, is := times.FromDate(day(year, month, last)); !is {
				t.Errorf("P15.1: the month %d of %d has no day %d", month, year, last)
			}
		}
		for _, wrong := range []int{math.MinInt, -1, 0, 13, 14, 1 + 1<<32, math.MaxInt} {
			for _, n := range []int{0, 1, 28, 31} {
				wantNoDate(t, day(year, wrong, n))
			}
		}
	}
}

func TestFebruaries(t *testing.T) { // P15.1
	for _, year := range []int{1704, 1796, 1804, 1896, 1904, 1968, 1972, 1996, 2000, 2004, 2096, 2104, 2196, 2204, 2248} {
		wantFromDateAsModel(t, day(year, 2, 29))
		if _, is := times.FromDate(day(year, 2, 29)); !is {
			t.Errorf("P15.1: the year %d is not long", year)
		}
		wantNoDate(t, day(year, 2, 30))
	}
	for _, year := range []int{1700, 1800, 1900, 2100, 2200, 1701, 1702, 1703, 1970, 1999, 2001, 2002, 2003, 2250} {
		wantNoDate(t, day(year, 2, 29))
	}
}

func TestClocksAtTheirEdges(t *testing.T) { // P15.1
	for _, d := range []times.Date{day(1700, 1, 1), day(1969, 12, 31), day(1970, 1, 1), day(2000, 2, 29), day(2250, 12, 31)} {
		for _, hour := range []int{math.MinInt, -1, 0, 23, 24, 25, math.MaxInt} {
			d.Hour, d.Minute, d.Second = hour, 0, 0
			wantFromDateAsModel(t, d)
			d.Minute, d.Second = 59, 59
			wantFromDateAsModel(t, d)
		}
		for _, x := range []int{math.MinInt, -1, 0, 59, 60, 61, math.MaxInt} {
			d.Hour, d.Minute, d.Second = 12, x, 30
			wantFromDateAsModel(t, d)
			d.Hour, d.Minute, d.Second = 12, 30, x
			wantFromDateAsModel(t, d)
			d.Hour, d.Minute, d.Second = 23, x, x
			wantFromDateAsModel(t, d)
		}
	}
}

func TestLeastAndGreatestIntInEachPlace(t *testing.T) { // P15.1
	for _, x := range []int{math.MinInt, math.MinInt + 1, math.MinInt32, math.MaxInt32, 1 << 32, math.MaxInt - 1, math.MaxInt} {
		good := times.Date{Year: 2000, Month: 2, Day: 3, Hour: 4, Minute: 5, Second: 6}
		for n := range 1 << 6 {
			d := good
			for place, field := range []*int{&d.Year, &d.Month, &d.Day, &d.Hour, &d.Minute, &d.Second} {
				if n>>place&1 == 1 {
					*field = x
				}
			}
			if n > 0 {
				wantNoDate(t, d)
			}
		}
	}
	wantNoDate(t, times.Date{})
}

func TestFromDateOfChance(t *testing.T) { // P15.1, P15.5
	r := rand.New(rand.NewSource(151))
	for range 100000 {
		wantFromDateAsModel(t, times.Date{Year: 1690 + r.Intn(570), Month: r.Intn(14), Day: r.Intn(33), Hour: r.Intn(26) - 1, Minute: r.Intn(62) - 1, Second: r.Intn(62) - 1})
		wantFromDateAsModel(t, at(calendar[r.Intn(len(calendar))], times.Date{Hour: r.Intn(24), Minute: r.Intn(60), Second: r.Intn(60)}))
	}
}

func TestToDateAtItsEdges(t *testing.T) { // P15.1
	wantToDate(t, leastTime, times.Date{Year: 1677, Month: 9, Day: 21, Hour: 0, Minute: 12, Second: 43})
	wantToDate(t, mostTime, times.Date{Year: 2262, Month: 4, Day: 11, Hour: 23, Minute: 47, Second: 16})
	wantToDate(t, 0, day(1970, 1, 1))
	wantToDate(t, nanos-1, day(1970, 1, 1))
	wantToDate(t, nanos, times.Date{Year: 1970, Month: 1, Day: 1, Second: 1})
	wantToDate(t, -nanos, times.Date{Year: 1969, Month: 12, Day: 31, Hour: 23, Minute: 59, Second: 59})
	wantToDate(t, -nanos-1, times.Date{Year: 1969, Month: 12, Day: 31, Hour: 23, Minute: 59, Second: 58})
	for _, n := range edgeTimes {
		wantToDate(t, n, slowToDate(n))
		wantToDate(t, n, otherDate(n))
	}
	for n := int64(0); n < 200000; n++ { // the days in whose midst an int64 begins and ends
		wantToDate(t, leastTime+n*nanos, otherDate(leastTime+n*nanos))
		wantToDate(t, mostTime-n*nanos, otherDate(mostTime-n*nanos))
	}
}

func TestToDateOfChance(t *testing.T) { // P15.1
	r := rand.New(rand.NewSource(152))
	for range 200000 {
		n := chanceTime(r)
		wantToDate(t, n, slowToDate(n))
		wantToDate(t, n, otherDate(n))
	}
}

func TestFromDosAtItsEdges(t *testing.T) { // P15.2
	const good = 20<<9 | 3<<5 | 1 // the first of March 2000
	wantFromDos(t, 1<<5|1, 0, dos1980)
	wantFromDos(t, dosMostDay, 23<<11|59<<5|29, dos2108-2*nanos)
	wantFromDos(t, good, 1, 951868802000000000)
	wantFromDos(t, good, 1<<5, 951868860000000000)
	wantFromDos(t, good, 1<<11, 951872400000000000)
	for _, x := range [][2]uint16{{0, 0}, {65535, 65535}, {0, 65535}, {65535, 0}, {good, 65535}, {dosMostDay, 65535}} {
		wantNotFromDos(t, x[0], x[1])
	}
	for _, month := range []uint16{0, 13, 14, 15} {
		for n := range uint16(32) {
			wantNotFromDos(t, 20<<9|month<<5|n, 0)
			wantNotFromDos(t, 127<<9|month<<5|n, 23<<11)
		}
	}
	for month := range uint16(16) {
		wantNotFromDos(t, 20<<9|month<<5, 0)
	}
	for hour := range uint16(32) {
		wantFromDosAsModel(t, good, hour<<11)
		if hour >= 24 {
			wantNotFromDos(t, good, hour<<11)
		}
	}
	for minute := range uint16(64) {
		wantFromDosAsModel(t, good, minute<<5)
		if minute >= 60 {
			wantNotFromDos(t, good, minute<<5)
		}
	}
	wantFromDos(t, good, 29, 951868858000000000)
	wantNotFromDos(t, good, 30)
	wantNotFromDos(t, good, 31)
}

func TestFromDosOfEachDayAndEachClock(t *testing.T) { // P15.2
	for n := range 1 << 16 {
		for _, x := range []uint16{0, 1, 29, 30, 23<<11 | 59<<5 | 29, 24 << 11, 60 << 5, 65535} {
			wantFromDosAsModel(t, uint16(n), x)
		}
		for _, x := range []uint16{0, 1, 1 << 5, 1<<5 | 1, 10337, 20<<9 | 2<<5 | 29, 120<<9 | 2<<5 | 29, 120<<9 | 2<<5 | 28, dosMostDay, dosMostDay + 1, 65535} {
			wantFromDosAsModel(t, x, uint16(n))
		}
	}
}

func TestToDosAtItsEdges(t *testing.T) { // P15.2, P15.5
	wantToDos(t, dos1980, 1<<5|1, 0)
	wantToDos(t, dos1980+2*nanos-1, 1<<5|1, 0)
	wantToDos(t, dos1980+2*nanos, 1<<5|1, 1)
	wantToDos(t, dos2108-1, dosMostDay, 23<<11|59<<5|29)
	wantToDos(t, dos2108-2*nanos, dosMostDay, 23<<11|59<<5|29)
	wantToDos(t, dos2108-2*nanos-1, dosMostDay, 23<<11|59<<5|28)
	const march = 951868800 * nanos
	wantToDos(t, march+nanos, 10337, 0) // odd seconds
	wantToDos(t, march+3*nanos, 10337, 1)
	wantToDos(t, march+59*nanos, 10337, 29)
	wantToDos(t, march+60*nanos-1, 10337, 29)
	wantToDos(t, march+60*nanos, 10337, 1<<5)
	for _, n := range []int64{leastTime, leastTime + 1, -dos1980, -nanos, -1, 0, 1, dos1980 - 2*nanos, dos1980 - 1, dos2108, dos2108 + 1, dos2108 + 2*nanos, mostTime - 1, mostTime} {
		wantNotToDos(t, n)
	}
	for _, n := range edgeTimes {
		wantToDosAsModel(t, n)
	}
}

func TestToDosOfEachDay(t *testing.T) { // P15.2, P15.5
	for n, d := range calendar {
		if d.Year < 1979 || d.Year > 2109 {
			continue
		}
		begins := int64(leastDay+n) * dayNanos
		for _, behind := range []int64{-1, 0, nanos, 2*nanos - 1, 2 * nanos, 45296 * nanos} {
			wantToDosAsModel(t, begins+behind)
		}
	}
}

func TestToDosOfEachSecondOfADay(t *testing.T) { // P15.2, P15.5
	begins, _ := slowFromDate(day(2000, 2, 29))
	for s := range int64(86400) {
		wantToDosAsModel(t, begins+s*nanos)
		wantToDosAsModel(t, begins+s*nanos+nanos-1)
	}
}

func TestToDosOfChance(t *testing.T) { // P15.2, P15.5
	r := rand.New(rand.NewSource(153))
	for range 30000 {
		wantToDosAsModel(t, dos1980+r.Int63n(dos2108-dos1980))
		wantToDosAsModel(t, chanceTime(r))
	}
}

func TestDosThereAndBack(t *testing.T) { // P15.2
	for n := range 1 << 16 {
		for _, clock := range []uint16{0, 23<<11 | 59<<5 | 29, 12<<11 | 34<<5 | 28} {
			if u, is := times.FromDos(uint16(n), clock); is {
				wantToDos(t, u, uint16(n), clock)
				wantToDos(t, u+2*nanos-1, uint16(n), clock)
			}
		}
	}
}

func TestNtAtItsEdges(t *testing.T) { // P15.3, P15.5
	wantFromNt(t, unixNt, 0)
	wantFromNt(t, unixNt+1, 100)
	wantFromNt(t, unixNt-1, -100)
	wantFromNt(t, leastNt, -9223372036854775800)
	wantFromNt(t, leastNt+1, -9223372036854775700)
	wantFromNt(t, mostNt-1, 9223372036854775700)
	wantFromNt(t, mostNt, 9223372036854775800)
	for _, v := range []uint64{0, 1, 100, leastNt - 2, leastNt - 1, mostNt + 1, mostNt + 2, 1 << 62, 1<<63 - 1, 1 << 63, 1<<63 + 1, 1<<63 + leastNt, 1<<63 + unixNt, 1<<63 + mostNt, math.MaxUint64 - 1, math.MaxUint64} {
		wantNotFromNt(t, v)
	}
	for n, want := range map[int64]uint64{
		0: unixNt, 99: unixNt, 100: unixNt + 1, 199: unixNt + 1, 200: unixNt + 2, -1: unixNt - 1, -99: unixNt - 1, -100: unixNt - 1, -101: unixNt - 2,
		leastTime: leastNt - 1, leastTime + 7: leastNt - 1, leastTime + 8: leastNt, mostTime: mostNt, mostTime - 7: mostNt, mostTime - 8: mostNt - 1,
	} {
		wantToNt(t, n, want)
	}
	for _, n := range edgeTimes {
		wantToNt(t, n, slowToNt(n))
	}
}

func TestNtOfDates(t *testing.T) { // P15.3
	// As other programs count: from the first of 1601 up to these.
	for d, v := range map[times.Date]uint64{day(1980, 1, 1): 119600064000000000, day(2000, 3, 1): 125963424000000000, day(1970, 1, 2): unixNt + 864000000000} {
		n, _ := times.FromDate(d)
		wantFromNt(t, v, n)
	}
}

func TestNtOfChance(t *testing.T) { // P15.3, P15.5
	r := rand.New(rand.NewSource(154))
	for range 100000 {
		wantFromNtAsModel(t, r.Uint64()>>r.Intn(64))
		wantFromNtAsModel(t, leastNt-1000+uint64(r.Intn(2000)))
		wantFromNtAsModel(t, mostNt-1000+uint64(r.Intn(2000)))
		wantFromNtAsModel(t, leastNt+uint64(r.Int63n(mostNt-leastNt+1)))
		n := chanceTime(r)
		wantToNt(t, n, slowToNt(n))
	}
}

func TestNtThatComesBack(t *testing.T) { // P15.5
	for _, n := range edgeTimes {
		back, is := times.FromNt(times.ToNt(n))
		if is != (n >= leastTime+8) { // the multiple of 100 is an int64 from there on
			t.Errorf("P15.5: FromNt of ToNt(%d): %d, %v", n, back, is)
		}
		if is && back != slowFloor(n, 100) || !is && back != 0 {
			t.Errorf("P15.5: FromNt of ToNt(%d): %d, %v", n, back, is)
		}
	}
}

func TestUnixAtItsEdges(t *testing.T) { // P15.4
	wantFromUnix(t, 0, 0)
	wantFromUnix(t, 1, nanos)
	wantFromUnix(t, -1, -nanos)
	wantFromUnix(t, mostUnix-1, 9223372035000000000)
	wantFromUnix(t, mostUnix, 9223372036000000000)
	wantFromUnix(t, -mostUnix+1, -9223372035000000000)
	wantFromUnix(t, -mostUnix, -9223372036000000000)
	for _, s := range []int{mostUnix + 1, mostUnix + 2, -mostUnix - 1, -mostUnix - 2, 1 << 34, 1 << 55, 1 << 62, -1 << 34, -1 << 55, -1 << 62, 9000000000000000000, math.MinInt, math.MinInt + 1, math.MaxInt - 1, math.MaxInt} {
		wantNotFromUnix(t, s)
	}
	for n, want := range map[int64]int{
		0: 0, 1: 0, 999999999: 0, 1000000000: 1, 1000000001: 1, 1999999999: 1, -1: -1, -999999999: -1, -1000000000: -1, -1000000001: -2, -2000000000: -2, -2000000001: -3,
		leastTime: -mostUnix - 1, mostTime: mostUnix, -mostUnix * nanos: -mostUnix, -mostUnix*nanos - 1: -mostUnix - 1, mostUnix*nanos - 1: mostUnix - 1,
	} {
		wantToUnix(t, n, want)
	}
	for _, n := range edgeTimes {
		wantToUnix(t, n, int(down(n, nanos).Int64()))
	}
}

func TestUnixOfChance(t *testing.T) { // P15.4
	r := rand.New(rand.NewSource(155))
	for range 100000 {
		wantFromUnixAsModel(t, int(chanceTime(r)))
		wantFromUnixAsModel(t, r.Intn(2*mostUnix+1)-mostUnix)
		n := chanceTime(r)
		wantToUnix(t, n, int(down(n, nanos).Int64()))
	}
}

func TestFloorAtItsEdges(t *testing.T) { // P15.4
	for _, step := range []int64{0, -1, -2, -100, leastTime, leastTime + 1} { // below 1
		for _, n := range edgeTimes {
			wantFloor(t, n, step, n)
		}
	}
	for _, n := range edgeTimes {
		wantFloor(t, n, 1, n)
	}
	wantFloor(t, 7, 3, 6)
	wantFloor(t, 6, 3, 6)
	wantFloor(t, -7, 3, -9)
	wantFloor(t, -6, 3, -6)
	wantFloor(t, 199, 100, 100)
	wantFloor(t, -1, 100, -100)
	wantFloor(t, 5, 100, 0) // steps greater than the time
	wantFloor(t, 0, 100, 0)
	wantFloor(t, -5, 100, -100)
	wantFloor(t, 5, mostTime, 0)
	wantFloor(t, -5, mostTime, -mostTime)
	wantFloor(t, mostTime, mostTime, mostTime)
	wantFloor(t, mostTime-1, mostTime, 0)
	wantFloor(t, -mostTime, mostTime, -mostTime)
	wantFloor(t, mostTime, 100, mostTime-7)
	wantFloor(t, mostTime, 2, mostTime-1)
	wantFloor(t, leastTime, 1<<62, leastTime)
	wantFloor(t, leastTime+1, 1<<62, leastTime)
	wantFloor(t, leastTime+8, 100, leastTime+8)
	// Here the multiple is no int64.
	wantFloor(t, leastTime, mostTime, leastTime)
	wantFloor(t, leastTime, 100, leastTime)
	wantFloor(t, leastTime+7, 100, leastTime+7)
	wantFloor(t, leastTime+1, nanos, leastTime+1)
	wantFloor(t, -1<<62-2, 1<<62+1, -1<<62-2)
}

func TestFloorOfChance(t *testing.T) { // P15.4
	for _, n := range edgeTimes {
		for _, step := range edgeSteps {
			wantFloor(t, n, step, slowFloor(n, step))
			wantFloor(t, n, -step, n)
		}
	}
	for n := int64(-50); n <= 50; n++ {
		for step := int64(-3); step <= 60; step++ {
			wantFloor(t, n, step, slowFloor(n, step))
		}
	}
	r := rand.New(rand.NewSource(156))
	for range 200000 {
		n, step := chanceTime(r), chanceTime(r)
		wantFloor(t, n, step, slowFloor(n, step))
		wantFloor(t, leastTime+n&0xffff, step, slowFloor(leastTime+n&0xffff, step))
	}
}
