package times_test

import (
	"math"
	"math/big"

	"wainload/times"
)

const (
	nanos      = 1000000000
	dayNanos   = 86400 * nanos
	leastTime  = math.MinInt64
	mostTime   = math.MaxInt64
	leastDay   = -106752 // the day of the least int64, of the year 1677
	mostDay    = 106751  // the day of the greatest one, of the year 2262
	dos1980    = 315532800 * nanos
	dos2108    = 4354819200 * nanos
	leastNt    = 24211015631452242
	unixNt     = 116444736000000000
	mostNt     = 208678456368547758
	mostUnix   = 9223372036
	dosMostDay = 127<<9 | 12<<5 | 31
)

// isLong is the document's words on years.
func isLong(year int) bool {
	if year%400 == 0 {
		return true
	}
	return year%4 == 0 && year%100 != 0
}

// daysOf is how many days a month has.
func daysOf(year, month int) int {
	switch month {
	case 4, 6, 9, 11:
		return 30
	case 2:
		if isLong(year) {
			return 29
		}
		return 28
	}
	return 31
}

// calendar has each day that a time may lie in, from leastDay on.
var calendar = walk()

// walk goes from day to day: from the first of the year 1970 back to the first of all, and then to the last.
func walk() []times.Date {
	d := times.Date{Year: 1970, Month: 1, Day: 1}
	for range -leastDay {
		d = dayAhead(d)
	}
	all := []times.Date{d}
	for range mostDay - leastDay {
		d = dayBehind(d)
		all = append(all, d)
	}
	return all
}

func dayAhead(d times.Date) times.Date {
	if d.Day--; d.Day > 0 {
		return d
	}
	if d.Month--; d.Month == 0 {
		d.Month = 12
		d.Year--
	}
	d.Day = daysOf(d.Year, d.Month)
	return d
}

func dayBehind(d times.Date) times.Date {
	if d.Day++; d.Day <= daysOf(d.Year, d.Month) {
		return d
	}
	d.Day = 1
	if d.Month++; d.Month == 13 {
		d.Month = 1
		d.Year++
	}
	return d
}

// dayOf has the days of calendar by their dates.
var dayOf = numbered()

func numbered() map[times.Date]int {
	m := map[times.Date]int{}
	for n, d := range calendar {
		m[d] = leastDay + n
	}
	return m
}

// down is t / step, rounded down, of whatever size.
func down(t, step int64) *big.Int {
	// Euclid's quotient is the one that is rounded down, as long as step is above 0.
	return new(big.Int).Div(big.NewInt(t), big.NewInt(step))
}

func slowFromDate(d times.Date) (int64, bool) {
	day, is := dayOf[times.Date{Year: d.Year, Month: d.Month, Day: d.Day}]
	if !is || d.Year < 1700 || d.Year > 2250 || d.Hour < 0 || d.Hour > 23 || d.Minute < 0 || d.Minute > 59 || d.Second < 0 || d.Second > 59 {
		return 0, false
	}
	return int64(day)*dayNanos + int64(d.Hour)*3600*nanos + int64(d.Minute)*60*nanos + int64(d.Second)*nanos, true
}

func slowToDate(t int64) times.Date {
	day := down(t, dayNanos).Int64()
	d := calendar[day-leastDay]
	s := down(t, nanos).Int64() - day*86400
	d.Hour = int(s / 3600)
	d.Minute = int(s / 60 % 60)
	d.Second = int(s % 60)
	return d
}

// dosDate takes the bits one by one, the highest first.
func dosDate(day, clock uint16) times.Date {
	take := func(from *uint16, bits int) int {
		v := 0
		for range bits {
			v *= 2
			if *from >= 1<<15 {
				v++
			}
			*from <<= 1
		}
		return v
	}
	var d times.Date
	d.Year = 1980 + take(&day, 7)
	d.Month = take(&day, 4)
	d.Day = take(&day, 5)
	d.Hour = take(&clock, 5)
	d.Minute = take(&clock, 6)
	d.Second = 2 * take(&clock, 5)
	return d
}

// slowToDos looks bit by bit for the greatest number that is not after t: greater numbers have later dates, whether these are dates or not.
func slowToDos(t int64) (uint16, uint16, bool) {
	if t < dos1980 || t >= dos2108 {
		return 0, 0, false
	}
	s := slowToDate(t)
	var v uint32
	for bit := uint32(1) << 31; bit > 0; bit /= 2 {
		if !isLater(dosDate(uint16((v|bit)>>16), uint16(v|bit)), s) {
			v |= bit
		}
	}
	return uint16(v >> 16), uint16(v), true
}

func isLater(a, b times.Date) bool {
	x := []int{a.Year, a.Month, a.Day, a.Hour, a.Minute, a.Second}
	for n, y := range []int{b.Year, b.Month, b.Day, b.Hour, b.Minute, b.Second} {
		if x[n] != y {
			return x[n] > y
		}
	}
	return false
}

// asTime is v, if it is an int64.
func asTime(v *big.Int) (int64, bool) {
	if !v.IsInt64() {
		return 0, false
	}
	return v.Int64(), true
}

func slowFromNt(v uint64) (int64, bool) {
	t := new(big.Int).SetUint64(v)
	t.Sub(t, big.NewInt(unixNt))
	return asTime(t.Mul(t, big.NewInt(100)))
}

func slowToNt(t int64) uint64 {
	v := down(t, 100)
	return v.Add(v, big.NewInt(unixNt)).Uint64()
}

func slowFromUnix(s int) (int64, bool) {
	v := big.NewInt(int64(s))
	return asTime(v.Mul(v, big.NewInt(nanos)))
}

func slowFloor(t, step int64) int64 {
	if step < 1 {
		return t
	}
	v := down(t, step)
	told, is := asTime(v.Mul(v, big.NewInt(step)))
	if !is {
		return t
	}
	return told
}
