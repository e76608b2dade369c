package date_test

import (
	"fmt"
	"math"
	"slices"
	"testing"

	"pandect/api"
	"pandect/date"
)

// modelLeap is the rule of the document, case by case.
func modelLeap(year int) bool {
	if year%400 == 0 {
		return true
	}
	if year%100 == 0 {
		return false
	}
	return year%4 == 0
}

func modelLength(year int) int {
	if modelLeap(year) {
		return 366
	}
	return 365
}

// modelStarts returns the first days of all years from 1900 on that begin on a day.
func modelStarts() []int {
	var starts []int
	start := 0
	for year := 1900; start <= api.MaxDay; year++ {
		starts = append(starts, start)
		start += modelLength(year)
	}
	return starts
}

// notDays are integers that are not days.
var notDays = []int{math.MinInt, -1 << 40, -366, -365, -2, -1, api.MaxDay + 1, api.MaxDay + 2, api.MaxDay + 366, 1 << 40, math.MaxInt}

// P1.1

func TestIsLeap(t *testing.T) {
	for year, want := range map[int]bool{
		1904: true, 2000: true, 1600: true, 2400: true, 1996: true, 4: true, 0: true, -4: true, -400: true,
		1900: false, 1901: false, 1902: false, 1903: false, 1800: false, 2100: false, 2200: false, 2300: false, 100: false, 1: false, -1: false, -100: false, -200: false, -2: false,
		math.MaxInt: false, math.MinInt: modelLeap(math.MinInt), math.MaxInt - 3: modelLeap(math.MaxInt - 3),
	} {
		if date.IsLeap(year) != want {
			t.Error(year, !want)
		}
	}
	for year := -5000; year <= 5000; year++ {
		if date.IsLeap(year) != modelLeap(year) {
			t.Error(year)
		}
	}
}

func TestYearStart(t *testing.T) {
	starts := modelStarts()
	for i, want := range starts {
		if n, ok := date.YearStart(1900 + i); n != want || !ok {
			t.Error(1900+i, n, ok)
		}
	}
	tooLate := 1900 + len(starts)
	for _, year := range []int{math.MinInt, -1900, -1, 0, 1, 1800, 1898, 1899, tooLate, tooLate + 1, tooLate + 400, 9999, api.MaxDay, 1 << 40, math.MaxInt - 400, math.MaxInt} {
		if n, ok := date.YearStart(year); n != 0 || ok {
			t.Error(year, n, ok)
		}
	}
}

func TestYearStartExamples(t *testing.T) {
	for year, want := range map[int]int{1900: 0, 1901: 365, 1904: 1460, 1905: 1826, 2000: 36524, 2001: 36890, 2300: 146097} {
		if n, ok := date.YearStart(year); n != want || !ok {
			t.Error(year, n, ok)
		}
	}
}

// TestEveryDay checks YearDay, Format, Parse and Weekday (P1.1 to P1.3), and that texts are in the order of the days (P1.5).
func TestEveryDay(t *testing.T) {
	year, of, weekday, last := 1900, 1, 0, ""
	for day := 0; day <= api.MaxDay; day++ {
		y, o := date.YearDay(day)
		s := date.Format(day)
		n, e := date.Parse(s)
		if y != year || o != of || n != day || e != api.OK || s <= last || date.Weekday(day) != weekday {
			t.Fatal(day, y, o, s, n, e, date.Weekday(day))
		}
		last = s
		weekday = (weekday + 1) % 7
		of++
		if of > modelLength(year) {
			year, of = year+1, 1
		}
	}
}

func TestYearDayOfNoDay(t *testing.T) {
	for _, day := range notDays {
		if year, of := date.YearDay(day); year != 0 || of != 0 {
			t.Error(day, year, of)
		}
	}
}

// P1.2

func TestFormat(t *testing.T) {
	for day, want := range map[int]string{0: "1900-001", 8: "1900-009", 9: "1900-010", 98: "1900-099", 99: "1900-100", 364: "1900-365", 365: "1901-001", 1825: "1904-366", 1826: "1905-001", 36889: "2000-366"} {
		if s := date.Format(day); s != want {
			t.Error(day, s)
		}
	}
	starts := modelStarts()
	want := fmt.Sprintf("%04d-%03d", 1899+len(starts), api.MaxDay-starts[len(starts)-1]+1)
	if s := date.Format(api.MaxDay); s != want {
		t.Error(s, want)
	}
	for _, day := range notDays {
		if s := date.Format(day); s != "" {
			t.Error(day, s)
		}
	}
}

func TestParseForm(t *testing.T) {
	for _, s := range []string{
		"", "-", "1", "1900", "1900-", "1900-1", "1900-01", "1900-0001", "1900-00001", "01900-001", "900-001", "19000-01", "1900001", "1900 001", "1900:001", "1900–01", "1900_001", "1900-001 ", " 1900-001", "1900-001\n", "1900-001\x00",
		"1900--01", "1900-+01", "1900-0x1", "190o-001", "+900-001", "-900-001", " 900-001", "1900-1 1", "1900-1.1", "190/-001", "190:-001", "1900-00/", "1900-00:", "1900-\xff01", "1900\x00001", "１900-1", "never", "1900-001-", "001-1900", "19-00001", "19000-001", "1900-001,1900-002", "----0---", "99999999999999999999-001",
	} {
		if n, e := date.Parse(s); n != 0 || e != api.ErrForm {
			t.Errorf("%q: %d %d", s, n, e)
		}
	}
	// Every byte that is not a digit is refused in place of any digit, and every byte but the hyphen in its place.
	for i := range len("1904-111") {
		for c := range 256 {
			text := []byte("1904-111")
			text[i] = byte(c)
			digit := c >= '0' && c <= '9'
			if _, e := date.Parse(string(text)); (e != api.ErrForm) != (i == 4 && c == '-' || i != 4 && digit) {
				t.Error(string(text), e)
			}
		}
	}
}

func TestParseRange(t *testing.T) {
	starts := modelStarts()
	last, of := 1899+len(starts), api.MaxDay-starts[len(starts)-1]+1
	for _, s := range []string{
		"0000-000", "0000-001", "0001-001", "1899-001", "1899-365", "1896-366", "1900-000", "1900-366", "1900-367", "1900-999", "1901-366", "1904-000", "1904-367", "2000-367", "2100-366", "9999-001", "9999-999",
		fmt.Sprintf("%04d-%03d", last, of+1), fmt.Sprintf("%04d-%03d", last, 366), fmt.Sprintf("%04d-%03d", last+1, 1), fmt.Sprintf("%04d-%03d", last, 0),
	} {
		if n, e := date.Parse(s); n != 0 || e != api.ErrRange {
			t.Error(s, n, e)
		}
	}
	for s, want := range map[string]int{"1900-001": 0, "1900-365": 364, "1904-366": 1825, "2000-366": 36889, "2100-365": 73413, fmt.Sprintf("%04d-%03d", last, of): api.MaxDay} {
		if n, e := date.Parse(s); n != want || e != api.OK {
			t.Error(s, n, e)
		}
	}
}

// TestParseEveryDate compares Parse with the model for every year of four digits and the days of the year that matter.
func TestParseEveryDate(t *testing.T) {
	starts := modelStarts()
	for year := range 10000 {
		for _, of := range []int{0, 1, 2, 100, 364, 365, 366, 367, 999} {
			want, errno := 0, api.ErrRange
			if i := year - 1900; i >= 0 && i < len(starts) && of >= 1 && of <= modelLength(year) && starts[i]+of-1 <= api.MaxDay {
				want, errno = starts[i]+of-1, api.OK
			}
			if n, e := date.Parse(fmt.Sprintf("%04d-%03d", year, of)); n != want || e != errno {
				t.Error(year, of, n, e)
			}
		}
	}
}

// P1.3

// modelAddYears follows the document, with the first days of the years in a table.
func modelAddYears(starts []int, day, years int) (int, bool) {
	if day < 0 || day > api.MaxDay || years < -3000 || years > 3000 {
		return 0, false
	}
	i, found := slices.BinarySearch(starts, day)
	if !found {
		i--
	}
	to := i + years
	if to < 0 || to >= len(starts) {
		return 0, false
	}
	result := starts[to] + min(day-starts[i], modelLength(1900+to)-1)
	if result > api.MaxDay {
		return 0, false
	}
	return result, true
}

func TestAddYears(t *testing.T) {
	for i, c := range []struct {
		day, years, want int
		ok               bool
	}{
		{0, 0, 0, true}, {0, 1, 365, true}, {364, 4, 1824, true}, {365, -1, 0, true}, {1825, 0, 1825, true}, {1825, 1, 2190, true}, {1825, 4, 3286, true}, {1825, -4, 364, true}, {1825, -1, 1459, true}, {1824, 1, 2190, true}, {0, 100, 36524, true}, {36889, 100, 73413, true},
		{0, -1, 0, false}, {364, -1, 0, false}, {1825, -5, 0, false}, {0, 3000, 0, false}, {0, 3001, 0, false}, {api.MaxDay, 1, 0, false}, {api.MaxDay, 0, api.MaxDay, true}, {-1, 1, 0, false}, {api.MaxDay + 1, -1, 0, false}, {api.MaxDay, -3000, 0, false},
	} {
		if n, ok := date.AddYears(c.day, c.years); n != c.want || ok != c.ok {
			t.Error(i, n, ok)
		}
	}
	for _, years := range []int{math.MinInt, math.MinInt + 1900, -1 << 40, -3002, -3001, 3001, 3002, 1 << 40, math.MaxInt - 1900, math.MaxInt} {
		for _, day := range []int{0, 1825, 500000, api.MaxDay} {
			if n, ok := date.AddYears(day, years); n != 0 || ok {
				t.Error(day, years, n, ok)
			}
		}
	}
	for _, day := range notDays {
		for _, years := range []int{-3000, -1, 0, 1, 3000} {
			if n, ok := date.AddYears(day, years); n != 0 || ok {
				t.Error(day, years, n, ok)
			}
		}
	}
}

// edgeDays are the first and last two days of many years, and the last days of all.
func edgeDays(starts []int) []int {
	var days []int
	for i := 0; i < len(starts); i += 1 + i/4 {
		for day := max(starts[i]-2, 0); day <= min(starts[i]+1, api.MaxDay); day++ {
			days = append(days, day)
		}
	}
	return append(days, 58, 59, 60, 1518, 1519, 1520, api.MaxDay-1, api.MaxDay)
}

// TestAddYearsModel compares AddYears with the model, and checks that a year added and subtracted yields the same day (P1.5).
func TestAddYearsModel(t *testing.T) {
	starts := modelStarts()
	for _, day := range edgeDays(starts) {
		for years := -3002; years <= 3002; years++ {
			want, may := modelAddYears(starts, day, years)
			n, ok := date.AddYears(day, years)
			if n != want || ok != may {
				t.Fatal(day, years, n, ok)
			}
			if _, of := date.YearDay(day); !ok || of == 366 {
				continue
			}
			if back, ok := date.AddYears(n, -years); back != day || !ok {
				t.Fatal(day, years, n, back, ok)
			}
		}
	}
}

func TestWeekday(t *testing.T) {
	for day, want := range map[int]int{0: 0, 1: 1, 5: 5, 6: 6, 7: 0, 13: 6, 365: 1, 36524: 5, api.MaxDay: 4} {
		if n := date.Weekday(day); n != want {
			t.Error(day, n)
		}
	}
	for _, day := range notDays {
		if n := date.Weekday(day); n != -1 {
			t.Error(day, n)
		}
	}
}

// P1.4

// firstDays returns n first days of sittings, from day 0 on.
func firstDays(n int) []int {
	l := make([]int, n)
	for i := range l {
		l[i] = 10 * i
	}
	return l
}

func TestSitting(t *testing.T) {
	for i, c := range []struct {
		l          []int
		day, n, of int
	}{
		{nil, 0, 0, 0}, {[]int{}, 5, 0, 0},
		{[]int{0}, 0, 1, 1}, {[]int{0}, api.MaxDay, 1, api.MaxDay + 1}, {[]int{api.MaxDay}, api.MaxDay, 1, 1}, {[]int{api.MaxDay}, api.MaxDay - 1, 0, 0}, {[]int{0, api.MaxDay}, api.MaxDay, 2, 1},
		{[]int{10, 30}, 0, 0, 0}, {[]int{10, 30}, 9, 0, 0}, {[]int{10, 30}, 10, 1, 1}, {[]int{10, 30}, 29, 1, 20}, {[]int{10, 30}, 30, 2, 1}, {[]int{10, 30}, 500, 2, 471},
		{[]int{4, 5, 6}, 4, 1, 1}, {[]int{4, 5, 6}, 5, 2, 1}, {[]int{4, 5, 6}, 6, 3, 1}, {[]int{4, 5, 6}, 7, 3, 2},
		{firstDays(64), 639, 64, 10}, {firstDays(64), 0, 1, 1}, {firstDays(65), 639, 0, 0}, {firstDays(65), 0, 0, 0},
	} {
		if n, of := date.Sitting(c.l, c.day); n != c.n || of != c.of {
			t.Error(i, n, of)
		}
	}
}

func TestSittingInvalid(t *testing.T) {
	for _, l := range [][]int{
		{30, 10}, {10, 10}, {0, 0}, {10, 20, 20}, {10, 20, 15, 30}, {10, 20, 30, 29}, {-1}, {-1, 5}, {-2, -1}, {math.MinInt, 5}, {10, api.MaxDay + 1}, {api.MaxDay + 1}, {10, math.MaxInt}, {0, -1, 0},
	} {
		for _, day := range []int{-1, 0, 9, 10, 15, 40, api.MaxDay} {
			if n, of := date.Sitting(l, day); n != 0 || of != 0 {
				t.Error(l, day, n, of)
			}
		}
	}
	for _, day := range notDays {
		if n, of := date.Sitting([]int{0, 10}, day); n != 0 || of != 0 {
			t.Error(day, n, of)
		}
	}
}

func TestSittingKeepsList(t *testing.T) {
	for _, want := range [][]int{{10, 30}, {30, 10}, {5, 5}, {-1, 3}} {
		l := slices.Clone(want)
		date.Sitting(l, 20)
		if !slices.Equal(l, want) {
			t.Error(l, want)
		}
	}
}

// P1.5

func TestLastDayOfLeapYear(t *testing.T) {
	// The exception of P1.5: day 366 is lost in a year that is too short.
	n, ok := date.AddYears(1825, 1)
	back, okBack := date.AddYears(n, -1)
	if n != 2190 || !ok || back != 1824 || !okBack {
		t.Error(n, ok, back, okBack)
	}
}
