package dateset_test

import (
	"fmt"
	"math"
	"slices"
	"strings"
	"testing"

	"pandect/api"
	"pandect/dateset"
)

// spans returns the spans with the given ends, two for each.
func spans(ends ...int) []api.Span {
	var out []api.Span
	for i := 0; i < len(ends); i += 2 {
		out = append(out, api.Span{From: ends[i], To: ends[i+1]})
	}
	return out
}

// modelContains is the definition of the set of a list.
func modelContains(l []api.Span, day int) bool {
	for _, s := range l {
		if day >= 0 && day <= api.MaxDay && s.From <= day && day < s.To {
			return true
		}
	}
	return false
}

// near is the number of days at either end of the valid days at which the spans of the samples may begin and end.
const near = 24

// modelSet returns the canonical list of the set of days that member selects, where the days that are not near an end of the valid days are all members or none.
func modelSet(member func(day int) bool) []api.Span {
	stretches := spans(near, api.MaxDay-near)
	for i := range near {
		stretches = append(stretches, api.Span{From: i, To: i + 1})
	}
	for day := api.MaxDay - near; day <= api.MaxDay; day++ {
		stretches = append(stretches, api.Span{From: day, To: day + 1})
	}
	slices.SortFunc(stretches, func(a, b api.Span) int { return a.From - b.From })
	var out []api.Span
	for _, s := range stretches {
		if !member(s.From) {
			continue
		}
		if n := len(out); n > 0 && out[n-1].To == s.From {
			out[n-1].To = s.To
		} else {
			out = append(out, s)
		}
	}
	return out
}

// dice yields numbers that are the same in every run.
type dice struct{ state uint64 }

func (d *dice) next(n int) int {
	d.state = d.state*6364136223846793005 + 1442695040888963407
	return int(d.state >> 33 % uint64(n))
}

// end returns an end of a span: usually near an end of the valid days or outside of them.
func (d *dice) end() int {
	switch d.next(12) {
	case 0:
		return []int{math.MinInt, math.MinInt + 1, -1 << 32, -1, math.MaxInt, math.MaxInt - 1, 1 << 32, api.Forever, api.MaxDay}[d.next(9)]
	case 1, 2, 3, 4:
		return api.MaxDay - near + 1 + d.next(near+3)
	default:
		return d.next(near+2) - 3
	}
}

// list returns up to seven spans: empty, overlapping, adjacent, unordered, or outside the valid days.
func (d *dice) list() []api.Span {
	var out []api.Span
	for range d.next(8) {
		out = append(out, api.Span{From: d.end(), To: d.end()})
		if s := &out[len(out)-1]; d.next(3) > 0 && s.To < s.From {
			s.From, s.To = s.To, s.From
		}
	}
	return out
}

const samples = 20000

// eachSample calls check with many pairs of lists and a day.
func eachSample(check func(a, b []api.Span, day int)) {
	d := &dice{}
	for range samples {
		check(d.list(), d.list(), d.end())
	}
}

// odd returns n canonical spans of one day each, beginning with day 1.
func odd(n int) []api.Span {
	var out []api.Span
	for i := range n {
		out = append(out, api.Span{From: 2*i + 1, To: 2*i + 2})
	}
	return out
}

// P2.1

func TestValid(t *testing.T) {
	for i, c := range []struct {
		l    []api.Span
		want bool
	}{
		{nil, true}, {[]api.Span{}, true}, {spans(0, 1), true}, {spans(0, api.Forever), true}, {spans(api.MaxDay, api.Forever), true}, {spans(3, 4, 5, 6), true}, {spans(0, 2, 3, 4, 9, 20), true}, {spans(5, 9), true},
		{spans(0, 0), false}, {spans(5, 5), false}, {spans(9, 5), false}, {spans(-1, 5), false}, {spans(-5, -1), false}, {spans(-1, 0), false}, {spans(0, api.Forever+1), false}, {spans(api.Forever, api.Forever+1), false}, {spans(api.Forever, api.Forever), false}, {spans(math.MinInt, math.MaxInt), false}, {spans(0, math.MaxInt), false},
		{spans(3, 5, 5, 8), false}, {spans(3, 5, 4, 8), false}, {spans(6, 8, 3, 4), false}, {spans(3, 4, 3, 4), false}, {spans(3, 4, 6, 6), false}, {spans(3, 4, 6, 8, 8, 9), false}, {spans(1, 9, 3, 4), false},
		{odd(api.MaxParts), true}, {odd(api.MaxParts + 1), false},
	} {
		if dateset.Valid(c.l...) != c.want {
			t.Error(i, !c.want)
		}
	}
	if !dateset.Valid() {
		t.Error("no span")
	}
}

// TestValidSamples checks that a list is valid if and only if it is the canonical list of its set.
func TestValidSamples(t *testing.T) {
	valid := 0
	check := func(l []api.Span) {
		want := slices.Equal(l, modelSet(func(day int) bool { return modelContains(l, day) }))
		if dateset.Valid(l...) != want {
			t.Error(l, !want)
		}
		if want && len(l) > 1 {
			valid++
		}
	}
	eachSample(func(a, b []api.Span, day int) {
		check(a)
		slices.SortFunc(b, func(x, y api.Span) int { return max(x.From, -1) - max(y.From, -1) })
		if len(b) == 0 || b[len(b)-1].From < 1<<32 {
			check(b)
		}
	})
	if valid < 100 {
		t.Error("too few valid lists:", valid)
	}
}

func TestContains(t *testing.T) {
	for i, c := range []struct {
		l    []api.Span
		day  int
		want bool
	}{
		{nil, 0, false}, {spans(0, 1), 0, true}, {spans(0, 1), 1, false}, {spans(1, 5, 10, 20), 0, false}, {spans(1, 5, 10, 20), 1, true}, {spans(1, 5, 10, 20), 4, true}, {spans(1, 5, 10, 20), 5, false}, {spans(1, 5, 10, 20), 10, true}, {spans(10, 20, 1, 5), 3, true}, {spans(1, 9, 3, 4), 7, true}, {spans(5, 5), 5, false}, {spans(9, 5), 7, false},
		{spans(-9, 1<<30), -1, false}, {spans(-9, 1<<30), 0, true}, {spans(-9, 1<<30), api.MaxDay, true}, {spans(-9, 1<<30), api.Forever, false}, {spans(math.MinInt, math.MaxInt), math.MinInt, false}, {spans(math.MinInt, math.MaxInt), math.MaxInt - 1, false}, {spans(math.MinInt, math.MaxInt), 5, true},
		{odd(api.MaxParts + 1), 2*api.MaxParts + 1, true}, {odd(api.MaxParts + 1), 2 * api.MaxParts, false},
	} {
		if dateset.Contains(c.l, c.day) != c.want {
			t.Error(i, !c.want)
		}
	}
	eachSample(func(a, b []api.Span, day int) {
		if dateset.Contains(a, day) != modelContains(a, day) {
			t.Error(a, day)
		}
	})
}

func TestSize(t *testing.T) {
	for i, c := range []struct {
		l    []api.Span
		want int
	}{
		{nil, 0}, {spans(0, 1), 1}, {spans(5, 5), 0}, {spans(9, 5), 0}, {spans(5, 9, 7, 12, 20, 20), 7}, {spans(3, 5, 5, 8), 5}, {spans(3, 5, 3, 5), 2}, {spans(1, 9, 3, 4), 8}, {spans(-5, 2), 2}, {spans(-5, 0), 0}, {spans(api.Forever, 1<<40), 0}, {spans(api.MaxDay, 1<<40), 1}, {spans(0, api.Forever), api.Forever}, {spans(math.MinInt, math.MaxInt), api.Forever}, {odd(api.MaxParts + 1), api.MaxParts + 1},
	} {
		if n := dateset.Size(c.l); n != c.want {
			t.Error(i, n)
		}
	}
}

// P2.2

func TestNormalize(t *testing.T) {
	for i, c := range []struct{ l, want []api.Span }{
		{nil, nil}, {spans(5, 5), nil}, {spans(9, 5), nil}, {spans(5, 9, 7, 12, 20, 20), spans(5, 12)}, {spans(3, 5, 5, 8), spans(3, 8)}, {spans(5, 8, 3, 5), spans(3, 8)}, {spans(6, 8, 3, 4), spans(3, 4, 6, 8)}, {spans(1, 9, 3, 4), spans(1, 9)}, {spans(1, 9, 3, 4, 8, 12), spans(1, 12)}, {spans(3, 4, 5, 6, 4, 5), spans(3, 6)}, {spans(3, 4, 3, 4), spans(3, 4)}, {spans(3, 6, 3, 9, 3, 7), spans(3, 9)},
		{spans(-5, 2), spans(0, 2)}, {spans(-5, 0), nil}, {spans(-5, -2), nil}, {spans(math.MinInt, 1), spans(0, 1)}, {spans(0, math.MaxInt), spans(0, api.Forever)}, {spans(api.MaxDay, math.MaxInt), spans(api.MaxDay, api.Forever)}, {spans(api.Forever, math.MaxInt), nil}, {spans(math.MaxInt, math.MinInt), nil}, {spans(0, api.MaxDay, api.MaxDay, api.Forever), spans(0, api.Forever)},
		{odd(api.MaxParts), odd(api.MaxParts)},
	} {
		if got := dateset.Normalize(c.l...); !slices.Equal(got, c.want) {
			t.Error(i, got)
		}
	}
	if got := dateset.Normalize(); len(got) != 0 {
		t.Error(got)
	}
}

func TestUnionIntersectSubtract(t *testing.T) {
	all, a, b := spans(0, api.Forever), spans(1, 5, 10, 20), spans(4, 12, 15, 16)
	for i, c := range []struct{ a, b, union, both, rest []api.Span }{
		{nil, nil, nil, nil, nil}, {a, nil, a, nil, a}, {nil, a, a, nil, nil}, {a, a, a, a, nil},
		{a, b, spans(1, 20), spans(4, 5, 10, 12, 15, 16), spans(1, 4, 12, 15, 16, 20)}, {b, a, spans(1, 20), spans(4, 5, 10, 12, 15, 16), spans(5, 10)},
		{all, a, all, a, spans(0, 1, 5, 10, 20, api.Forever)}, {a, all, all, a, nil}, {all, all, all, all, nil},
		{spans(0, 5), spans(5, 9), spans(0, 9), nil, spans(0, 5)}, {spans(0, 1), spans(api.MaxDay, api.Forever), spans(0, 1, api.MaxDay, api.Forever), nil, spans(0, 1)},
		{spans(9, 12, 1, 3), spans(2, 10, 30, 30), spans(1, 12), spans(2, 3, 9, 10), spans(1, 2, 10, 12)}, {spans(-9, 1<<30), spans(3, 5, 5, 7), all, spans(3, 7), spans(0, 3, 7, api.Forever)},
	} {
		union, both, rest := dateset.Union(c.a, c.b), dateset.Intersect(c.a, c.b), dateset.Subtract(c.a, c.b)
		if !slices.Equal(union, c.union) || !slices.Equal(both, c.both) || !slices.Equal(rest, c.rest) {
			t.Error(i, union, both, rest)
		}
	}
}

func TestTruncateExtendFrom(t *testing.T) {
	l := spans(5, 9, 7, 12, 20, 20, 30, 31)
	for i, c := range []struct {
		day           int
		before, since []api.Span
	}{
		{math.MinInt, nil, spans(0, api.Forever)}, {-1, nil, spans(0, api.Forever)}, {0, nil, spans(0, api.Forever)}, {1, nil, spans(1, api.Forever)}, {4, nil, spans(4, api.Forever)}, {5, nil, spans(5, api.Forever)}, {6, spans(5, 6), spans(5, api.Forever)}, {8, spans(5, 8), spans(5, api.Forever)}, {11, spans(5, 11), spans(5, api.Forever)}, {12, spans(5, 12), spans(5, api.Forever)}, {13, spans(5, 12), spans(5, 12, 13, api.Forever)}, {30, spans(5, 12), spans(5, 12, 30, api.Forever)}, {31, spans(5, 12, 30, 31), spans(5, 12, 30, api.Forever)}, {32, spans(5, 12, 30, 31), spans(5, 12, 30, 31, 32, api.Forever)},
		{api.MaxDay, spans(5, 12, 30, 31), spans(5, 12, 30, 31, api.MaxDay, api.Forever)}, {api.Forever, spans(5, 12, 30, 31), spans(5, 12, 30, 31)}, {api.Forever + 1, spans(5, 12, 30, 31), spans(5, 12, 30, 31)}, {math.MaxInt, spans(5, 12, 30, 31), spans(5, 12, 30, 31)},
	} {
		before, since := dateset.Truncate(l, c.day), dateset.ExtendFrom(l, c.day)
		if !slices.Equal(before, c.before) || !slices.Equal(since, c.since) {
			t.Error(i, before, since)
		}
	}
	if got := dateset.ExtendFrom(nil, api.MaxDay); !slices.Equal(got, spans(api.MaxDay, api.Forever)) {
		t.Error(got)
	}
	all := spans(-1<<40, 1<<40)
	if got := dateset.Truncate(all, api.MaxDay); !slices.Equal(got, spans(0, api.MaxDay)) {
		t.Error(got)
	}
	if got := dateset.Truncate(all, math.MaxInt); !slices.Equal(got, spans(0, api.Forever)) {
		t.Error(got)
	}
}

// TestSamples compares each function that returns a set with the model.
func TestSamples(t *testing.T) {
	eachSample(func(a, b []api.Span, day int) {
		inA := func(x int) bool { return modelContains(a, x) }
		inB := func(x int) bool { return modelContains(b, x) }
		for i, c := range []struct {
			got    []api.Span
			member func(x int) bool
		}{
			{dateset.Normalize(a...), inA},
			{dateset.Union(a, b), func(x int) bool { return inA(x) || inB(x) }},
			{dateset.Intersect(a, b), func(x int) bool { return inA(x) && inB(x) }},
			{dateset.Subtract(a, b), func(x int) bool { return inA(x) && !inB(x) }},
			{dateset.Truncate(a, day), func(x int) bool { return x < day && inA(x) }},
			{dateset.ExtendFrom(a, day), func(x int) bool { return x >= day || inA(x) }},
		} {
			if want := modelSet(c.member); !slices.Equal(c.got, want) || !dateset.Valid(c.got...) {
				t.Error(i, a, b, day, c.got, want)
			}
		}
	})
}

// TestManyParts checks that no day of a set is lost where the canonical list has more spans than a valid one may have.
func TestManyParts(t *testing.T) {
	full, over := odd(api.MaxParts), odd(api.MaxParts+1)
	even := dateset.Subtract(spans(0, 2*api.MaxParts+2), over)
	if len(even) != api.MaxParts+1 || even[0] != (api.Span{From: 0, To: 1}) || even[api.MaxParts] != (api.Span{From: 2 * api.MaxParts, To: 2*api.MaxParts + 1}) {
		t.Error("Subtract", len(even))
	}
	for i, c := range []struct{ got, want []api.Span }{
		{dateset.Normalize(over...), over}, {dateset.Union(full, over), over}, {dateset.Intersect(over, over), over}, {dateset.Union(over, even), spans(0, 2*api.MaxParts+2)}, {dateset.Truncate(over, 2*api.MaxParts+1), full}, {dateset.Subtract(over, full), spans(2*api.MaxParts+1, 2*api.MaxParts+2)}, {dateset.ExtendFrom(over, 2), spans(1, api.Forever)},
	} {
		if !slices.Equal(c.got, c.want) {
			t.Error(i, len(c.got))
		}
	}
}

// TestArgumentsAndResults checks that arguments are not modified and that results are new slices.
func TestArgumentsAndResults(t *testing.T) {
	want := spans(20, 25, 5, 9, 7, 12, 30, 30, -4, 1)
	one := spans(3, 4, 6, 8)
	for i, f := range []func(l []api.Span) []api.Span{
		func(l []api.Span) []api.Span { return dateset.Normalize(l...) },
		func(l []api.Span) []api.Span { return dateset.Union(l, nil) },
		func(l []api.Span) []api.Span { return dateset.Union(nil, l) },
		func(l []api.Span) []api.Span { return dateset.Intersect(l, l) },
		func(l []api.Span) []api.Span { return dateset.Subtract(l, nil) },
		func(l []api.Span) []api.Span { return dateset.ExtendFrom(l, api.Forever) },
		func(l []api.Span) []api.Span { return dateset.Truncate(l, api.Forever) },
	} {
		for _, arg := range [][]api.Span{want, one} {
			l := slices.Clone(arg)
			first := f(l)
			again := slices.Clone(first)
			clear(first[:cap(first)])
			if second := f(l); !slices.Equal(l, arg) || !slices.Equal(second, again) || len(second) == 0 {
				t.Error(i, l, second, again)
			}
		}
	}
	l := slices.Clone(want)
	dateset.Valid(l...)
	dateset.Contains(l, 8)
	dateset.Boundaries(l)
	dateset.Size(l)
	dateset.Format(l)
	if !slices.Equal(l, want) {
		t.Error(l)
	}
}

// P2.3

func TestBoundaries(t *testing.T) {
	for i, c := range []struct {
		l    []api.Span
		want []int
	}{
		{nil, nil}, {spans(5, 5), nil}, {spans(0, 1), []int{0, 1}}, {spans(5, 9, 7, 12, 20, 20), []int{5, 12}}, {spans(6, 8, 3, 4), []int{3, 4, 6, 8}}, {spans(3, 5, 5, 8), []int{3, 8}}, {spans(-5, 2), []int{0, 2}}, {spans(-5, 0), nil},
		{spans(0, api.Forever), []int{0}}, {spans(0, api.MaxDay), []int{0, api.MaxDay}}, {spans(api.MaxDay, api.Forever), []int{api.MaxDay}}, {spans(api.MaxDay-1, api.MaxDay), []int{api.MaxDay - 1, api.MaxDay}}, {spans(7, math.MaxInt, 1, 2), []int{1, 2, 7}}, {spans(api.Forever, 1<<40), nil},
	} {
		if got := dateset.Boundaries(c.l); !slices.Equal(got, c.want) {
			t.Error(i, got)
		}
	}
	if got := dateset.Boundaries(odd(api.MaxParts + 1)); len(got) != 2*api.MaxParts+2 || got[0] != 1 || got[len(got)-1] != 2*api.MaxParts+2 {
		t.Error(len(got))
	}
	eachSample(func(a, b []api.Span, day int) {
		var want []int
		for x := 0; x <= api.MaxDay; x++ {
			if modelContains(a, x) != modelContains(a, x-1) {
				want = append(want, x)
			}
			if x == near {
				x = api.MaxDay - near - 1
			}
		}
		if got := dateset.Boundaries(a); !slices.Equal(got, want) {
			t.Error(a, got, want)
		}
	})
}

// P2.4

func TestFormatParse(t *testing.T) {
	for text, l := range map[string][]api.Span{
		"never": nil, "0": spans(0, 1), "5": spans(5, 6), "5-6": spans(5, 7), "5-11": spans(5, 12), "0-1": spans(0, 2), "0+": spans(0, api.Forever), "5+": spans(5, api.Forever), "3,6-7": spans(3, 4, 6, 8), "3,5,7+": spans(3, 4, 5, 6, 7, api.Forever), "10-19,30+": spans(10, 20, 30, api.Forever),
		"1048576": spans(api.MaxDay, api.Forever), "1048575+": spans(api.MaxDay-1, api.Forever), "1048575": spans(api.MaxDay-1, api.MaxDay), "1048574-1048575": spans(api.MaxDay-2, api.MaxDay), "0-1048575": spans(0, api.MaxDay), "0,1048576": spans(0, 1, api.MaxDay, api.Forever),
	} {
		if s := dateset.Format(l); s != text {
			t.Error(text, s)
		}
		if got, e := dateset.Parse(text); !slices.Equal(got, l) || e != api.OK {
			t.Error(text, got, e)
		}
	}
}

func TestFormatOfAnySpans(t *testing.T) {
	for i, c := range []struct {
		l    []api.Span
		want string
	}{
		{spans(5, 5), "never"}, {spans(9, 5), "never"}, {spans(-9, 0), "never"}, {spans(api.Forever, 1<<40), "never"}, {spans(5, 9, 7, 12, 20, 20), "5-11"}, {spans(6, 8, 3, 4), "3,6-7"}, {spans(3, 4, 4, 5), "3-4"}, {spans(-9, 3), "0-2"}, {spans(-9, 1), "0"}, {spans(math.MinInt, math.MaxInt), "0+"}, {spans(api.MaxDay, 1<<40), "1048576"}, {spans(7, math.MaxInt), "7+"},
	} {
		if s := dateset.Format(c.l); s != c.want {
			t.Error(i, s)
		}
	}
}

func TestParseForm(t *testing.T) {
	for _, s := range []string{
		"", " ", ",", "-", "+", "x", "Never", "NEVER", "never ", " never", "nevernever", "never,1", "1,never", "never,never", "never+", "none",
		"05", "00", "0005", "00-1", "05-6", "5-06", "05+", "-5", "--5", "-0", "+5", "5++", "5+-", "5-+", "+5+", "5+5", "5-9+", "-5-9", "5--9", "5-9-11", "5-+9", "+5-9",
		" 5", "5 ", "5 -9", "5- 9", "1 ,3", "1, 3", "5\n", "5\x00", "5_0", "0x5", "0b1", "5e1", "5.0", "٥", "½", "5–9", "5;7",
		"1,", ",1", "1,,3", "1,3,", ",1,3", "3-", "3-,5", "-3,5", "5,-", "5,+",
		"5-5", "5-4", "9-5", "0-0", "3,4", "3-4,5", "3,4-5", "3-5,6+", "3-5,5-9", "3-6,5-9", "3,3", "4,3", "6-7,3", "5+,9", "5+,5+", "0+,1048576", "1,3,2",
		"1048577", "1048577+", "1048576+", "1048576-1048576", "1048575-1048576", "5-1048576", "0-1048576", "5-1048577", "2000000", "5-2000000",
		"9223372036854775806", "9223372036854775807", "9223372036854775808", "5-9223372036854775806", "5-9223372036854775807", "5-9223372036854775808", "-9223372036854775808", "9223372036854775807+", "99999999999999999999", "5-99999999999999999999", "18446744073709551621", "5-18446744073709551625", "9223372036854775807-9223372036854775807",
		strings.Repeat("9", 1000), strings.Repeat(",", 10000), strings.Repeat("1,", 5000) + "1",
	} {
		if l, e := dateset.Parse(s); len(l) != 0 || e != api.ErrForm {
			t.Error(s, l, e)
		}
	}
}

// TestParseManySpans checks the greatest number of spans.
func TestParseManySpans(t *testing.T) {
	for _, c := range []struct {
		n int
		e api.Errno
	}{{1, api.OK}, {2, api.OK}, {api.MaxParts - 1, api.OK}, {api.MaxParts, api.OK}, {api.MaxParts + 1, api.ErrForm}, {2 * api.MaxParts, api.ErrForm}} {
		var parts []string
		for i := range c.n {
			parts = append(parts, fmt.Sprint(2*i+1))
		}
		text := strings.Join(parts, ",")
		if s := dateset.Format(odd(c.n)); s != text {
			t.Error(c.n, "Format")
		}
		var want []api.Span
		if c.e == api.OK {
			want = odd(c.n)
		}
		if l, e := dateset.Parse(text); !slices.Equal(l, want) || e != c.e {
			t.Error(c.n, len(l), e)
		}
	}
}

// modelFormat writes a canonical list.
func modelFormat(l []api.Span) string {
	text := ""
	for _, s := range l {
		switch {
		case s.To == s.From+1:
			text += fmt.Sprintf(",%d", s.From)
		case s.To == api.Forever:
			text += fmt.Sprintf(",%d+", s.From)
		default:
			text += fmt.Sprintf(",%d-%d", s.From, s.To-1)
		}
	}
	if text == "" {
		return "never"
	}
	return text[1:]
}

func TestFormatParseSamples(t *testing.T) {
	eachSample(func(a, b []api.Span, day int) {
		want := modelSet(func(x int) bool { return modelContains(a, x) })
		s := dateset.Format(a)
		if s != modelFormat(want) {
			t.Error(a, s)
		}
		if l, e := dateset.Parse(s); !slices.Equal(l, want) || e != api.OK {
			t.Error(a, s, l, e)
		}
	})
}

// TestParseShortTexts checks that each short text is either the text of the list that Parse returns, or refused.
func TestParseShortTexts(t *testing.T) {
	texts, accepted := []string{""}, 0
	for range 6 {
		var longer []string
		for _, s := range texts {
			for _, c := range "013,-+" {
				longer = append(longer, s+string(c))
			}
		}
		for _, s := range longer {
			l, e := dateset.Parse(s)
			if e == api.OK {
				accepted++
			}
			if e == api.OK && (!dateset.Valid(l...) || modelFormat(l) != s) || e != api.OK && (e != api.ErrForm || len(l) != 0) {
				t.Error(s, l, e)
			}
		}
		texts = longer
	}
	if accepted < 100 {
		t.Error("too few texts:", accepted)
	}
}

// P2.5

func TestLaws(t *testing.T) {
	all := spans(0, api.Forever)
	d := &dice{state: 7}
	eachSample(func(a, b []api.Span, day int) {
		c := d.list()
		union, both, rest := dateset.Union(a, b), dateset.Intersect(a, b), dateset.Subtract(a, b)
		before, since := dateset.Truncate(a, day), dateset.Intersect(a, spans(day, api.Forever))
		for i, pair := range [][2][]api.Span{
			{union, dateset.Union(b, a)},
			{both, dateset.Intersect(b, a)},
			{dateset.Union(union, c), dateset.Union(a, dateset.Union(b, c))},
			{dateset.Intersect(both, c), dateset.Intersect(a, dateset.Intersect(b, c))},
			{dateset.Intersect(union, c), dateset.Union(dateset.Intersect(a, c), dateset.Intersect(b, c))},
			{dateset.Union(both, c), dateset.Intersect(dateset.Union(a, c), dateset.Union(b, c))},
			{dateset.Subtract(all, union), dateset.Intersect(dateset.Subtract(all, a), dateset.Subtract(all, b))},
			{dateset.Subtract(all, both), dateset.Union(dateset.Subtract(all, a), dateset.Subtract(all, b))},
			{rest, dateset.Intersect(a, dateset.Subtract(all, b))},
			{dateset.Union(rest, both), dateset.Normalize(a...)},
			{dateset.Intersect(a, union), dateset.Normalize(a...)},
			{dateset.Union(a, both), dateset.Normalize(a...)},
			{dateset.Intersect(rest, b), nil},
			{dateset.Union(before, since), dateset.Normalize(a...)},
			{dateset.Intersect(before, since), nil},
		} {
			if !slices.Equal(pair[0], pair[1]) {
				t.Error(i, a, b, c, day, pair[0], pair[1])
			}
		}
		if dateset.Size(a) != dateset.Size(rest)+dateset.Size(both) || dateset.Size(union) != dateset.Size(a)+dateset.Size(b)-dateset.Size(both) || dateset.Size(a) != dateset.Size(before)+dateset.Size(since) || dateset.Size(all) != dateset.Size(a)+dateset.Size(dateset.Subtract(all, a)) {
			t.Error("sizes", a, b, day)
		}
	})
}
