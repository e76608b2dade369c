// Package date converts between day numbers and ordinal dates (year and day of the year). It is layer 1; see shared/doc/01-date.md.
package date

import (
	"math"
	"slices"
	"strconv"

	"pandect/api"
)

const (
	firstYear  = 1900
	cycleYears = 400    // leap years repeat after that many years
	cycleDays  = 146097 // the days of any cycleYears successive years
	weekDays   = 7
	maxShift   = 3000 // the most years that AddYears adds or subtracts
	yearDigits = 4
	dayDigits  = 3
)

// isDay reports whether the number is a day.
func isDay(day int) bool { return day >= 0 && day <= api.MaxDay }

// yearLength returns the number of days of a year.
func yearLength(year int) int {
	if IsLeap(year) {
		return 366
	}
	return 365
}

// lastYear returns the last year up to limit that begins on or before day, and its first day. Neither argument may come before the first year.
func lastYear(limit, day int) (year, start int) {
	year = firstYear
next:
	if limit-year >= cycleYears && day-start >= cycleDays { // a whole cycle at once, to keep the loop short
		year += cycleYears
		start += cycleDays
		goto next
	}
	if year < limit && day-start >= yearLength(year) {
		start += yearLength(year)
		year++
		goto next
	}
	return year, start
}

// Format returns the text of a day, or the empty string if day is not valid.
func Format(day int) string {
	if !isDay(day) {
		return ""
	}
	year, of := YearDay(day)
	return strconv.Itoa(year) + "-" + strconv.Itoa(1000 + of)[1:] // 1000 provides the leading zeros
}

// Parse returns the day with the text s.
func Parse(s string) (int, api.Errno) {
	if len(s) != yearDigits+1+dayDigits || s[yearDigits] != '-' {
		return 0, api.ErrForm
	}
	year, yearOK := parseDigits(s[:yearDigits])
	of, ofOK := parseDigits(s[yearDigits+1:])
	if !yearOK || !ofOK {
		return 0, api.ErrForm
	}
	start, ok := YearStart(year)
	if !ok || of < 1 || of > yearLength(year) || !isDay(start+of-1) {
		return 0, api.ErrRange
	}
	return start + of - 1, api.OK
}

// parseDigits returns the number that the digits of s stand for, or false if s has another character.
func parseDigits(s string) (int, bool) {
	n := 0
	for i := range len(s) {
		if s[i] < '0' || s[i] > '9' {
			return 0, false
		}
		n = n*10 + int(s[i]-'0')
	}
	return n, true
}

// YearDay returns the year of a day and the day of the year, from 1.
func YearDay(day int) (year, of int) {
	if !isDay(day) {
		return 0, 0
	}
	year, start := lastYear(math.MaxInt, day)
	return year, day - start + 1
}

// YearStart returns the first day of a year.
func YearStart(year int) (int, bool) {
	if year < firstYear {
		return 0, false
	}
	last, start := lastYear(year, api.MaxDay)
	if last != year {
		return 0, false
	}
	return start, true
}

// IsLeap reports whether year is a leap year.
func IsLeap(year int) bool {
	return year%4 == 0 && year%100 != 0 || year%400 == 0
}

// AddYears returns the day that is the given number of years later.
func AddYears(day, years int) (int, bool) {
	if !isDay(day) || years < -maxShift || years > maxShift {
		return 0, false
	}
	year, of := YearDay(day)
	start, ok := YearStart(year + years)
	if !ok {
		return 0, false
	}
	day = start + min(of, yearLength(year+years)) - 1
	if !isDay(day) {
		return 0, false
	}
	return day, true
}

// Weekday returns the day of the week, from 0 for Monday, or -1 if day is not valid.
func Weekday(day int) int {
	if !isDay(day) {
		return -1
	}
	return day % weekDays // day 0 is a Monday
}

// Sitting returns the number of the sitting of a day, and the number of the day within it.
func Sitting(l []int, day int) (int, int) {
	if !isDay(day) || !validSittings(l) {
		return 0, 0
	}
	n, start := 0, 0
	for n < len(l) && l[n] <= day {
		start = l[n]
		n++
	}
	if n == 0 {
		return 0, 0
	}
	return n, day - start + 1
}

// validSittings reports whether l is a list of sittings.
func validSittings(l []int) bool {
	if len(l) > api.MaxList {
		return false
	}
	last := -1
	return !slices.ContainsFunc(l, func(day int) bool {
		misplaced := !isDay(day) || day <= last
		last = day
		return misplaced
	})
}
