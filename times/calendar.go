package times

import "sort"

const (
	daySeconds = 86400
	yearDays   = 365 // of a year that is not long
	february   = 1   // its place among the months

	unixYear = 1970
	minYear  = 1700 // of FromDate
	maxYear  = 2250

	leastYear    = 1677 // of any time: an int64 reaches no further
	greatestYear = 2262
)

// months are the days of each month of a year.
func months(year int) [12]int {
	m := [12]int{31, 28, 31, 30, 31, 30, 31, 31, 30, 31, 30, 31}
	if year%4 == 0 && year%100 != 0 || year%400 == 0 {
		m[february]++
	}
	return m
}

// longYears counts those from the year 1 on, up to the one ahead of year.
func longYears(year int) int {
	year--
	return year/4 - year/100 + year/400
}

// firstDay is the one that a month begins with, counted from the first of the year 1970; month 13 begins the next year.
func firstDay(year, month int) int {
	day := (year-unixYear)*yearDays + longYears(year) - longYears(unixYear)
	m := months(year)
	for _, days := range m[:month-1] {
		day += days
	}
	return day
}

// dateOfDay is the day's beginning. It looks for the first year, and the first month of it, that end behind the day.
func dateOfDay(day int) Date {
	endsBehind := func(year, month int) bool { return firstDay(year, month+1) > day }
	year := leastYear + sort.Search(greatestYear-leastYear, func(n int) bool { return endsBehind(leastYear+n, 12) })
	month := 1 + sort.Search(11, func(n int) bool { return endsBehind(year, 1+n) })
	return Date{Year: year, Month: month, Day: 1 + day - firstDay(year, month)}
}

func isDate(d Date) bool {
	return within(d.Year, minYear, maxYear) && within(d.Month, 1, 12) && within(d.Day, 1, months(d.Year)[d.Month-1]) &&
		within(d.Hour, 0, 23) && within(d.Minute, 0, 59) && within(d.Second, 0, 59)
}

func within(v, least, greatest int) bool { return least <= v && v <= greatest }
