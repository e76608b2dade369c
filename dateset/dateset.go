// Package dateset implements sets of days (chapter 2).
package dateset

import (
	"cmp"
	"slices"
	"strconv"
	"strings"

	"pandect/api"
)

// Valid reports whether the list of spans is canonical.
func Valid(l ...api.Span) bool {
	if len(l) > api.MaxParts {
		return false
	}
	last := -1 // day -1 is not valid, so that the first span may begin on day 0
	for _, s := range l {
		if s.From <= last || s.To <= s.From || s.To > api.Forever {
			return false
		}
		last = s.To
	}
	return true
}

// Normalize returns the canonical list of the set of l.
func Normalize(l ...api.Span) []api.Span {
	var parts []api.Span
	for _, s := range l {
		s = api.Span{From: max(s.From, 0), To: min(s.To, api.Forever)}
		if s.From < s.To {
			parts = append(parts, s)
		}
	}
	slices.SortFunc(parts, func(a, b api.Span) int { return cmp.Compare(a.From, b.From) })
	var out []api.Span
	for _, s := range parts {
		out = appendSpan(out, s)
	}
	return out
}

// appendSpan adds a span that does not begin before the last span of l; if they overlap or are adjacent, it extends the last span.
func appendSpan(l []api.Span, s api.Span) []api.Span {
	n := len(l)
	if n == 0 || l[n-1].To < s.From {
		return append(l, s)
	}
	l[n-1].To = max(l[n-1].To, s.To)
	return l
}

// Contains reports whether day is a valid day of the set of l.
func Contains(l []api.Span, day int) bool {
	if day < 0 || day > api.MaxDay {
		return false
	}
	return slices.ContainsFunc(l, func(s api.Span) bool { return s.From <= day && day < s.To })
}

// Union returns the union of two sets.
func Union(a, b []api.Span) []api.Span {
	return merge(a, b, func(inA, inB bool) bool { return inA || inB })
}

// Intersect returns the intersection of two sets.
func Intersect(a, b []api.Span) []api.Span {
	return merge(a, b, func(inA, inB bool) bool { return inA && inB })
}

// Subtract returns the days of a that are not in b.
func Subtract(a, b []api.Span) []api.Span {
	return merge(a, b, func(inA, inB bool) bool { return inA && !inB })
}

// merge returns the set of the days that keep selects by their membership in a and in b.
func merge(a, b []api.Span, keep func(inA, inB bool) bool) []api.Span {
	a, b = Normalize(a...), Normalize(b...)
	var out []api.Span
	for day := 0; day < api.Forever; {
		var inA, inB bool
		var endA, endB int
		a, inA, endA = advance(a, day)
		b, inB, endB = advance(b, day)
		end := min(endA, endB)
		if keep(inA, inB) {
			out = appendSpan(out, api.Span{From: day, To: end})
		}
		day = end
	}
	return out
}

// advance drops the spans of a canonical list that end on or before day. It also reports whether day is in the set, and the end of the stretch of days from day on for which that is so.
func advance(l []api.Span, day int) (rest []api.Span, in bool, end int) {
	for len(l) > 0 && l[0].To <= day {
		l = l[1:]
	}
	if len(l) == 0 {
		return nil, false, api.Forever
	}
	if l[0].From <= day {
		return l, true, l[0].To
	}
	return l, false, l[0].From
}

// ExtendFrom returns the days of l before day together with all days from day on.
func ExtendFrom(l []api.Span, day int) []api.Span {
	return Union(l, []api.Span{{From: day, To: api.Forever}})
}

// Truncate returns the days of l before day.
func Truncate(l []api.Span, day int) []api.Span {
	return Intersect(l, []api.Span{{From: 0, To: day}})
}

// Boundaries returns the days at which membership changes, in increasing order.
func Boundaries(l []api.Span) []int {
	var out []int
	for _, s := range Normalize(l...) {
		out = append(out, s.From)
		if s.To <= api.MaxDay {
			out = append(out, s.To)
		}
	}
	return out
}

// Size returns the number of days in the set.
func Size(l []api.Span) int {
	n := 0
	for _, s := range Normalize(l...) {
		n += s.To - s.From
	}
	return n
}

const never = "never" // the text of the empty set

// Format returns the text of the set.
func Format(l []api.Span) string {
	var parts []string
	for _, s := range Normalize(l...) {
		parts = append(parts, formatSpan(s))
	}
	if len(parts) == 0 {
		return never
	}
	return strings.Join(parts, ",")
}

// formatSpan returns the text of a span of a canonical list.
func formatSpan(s api.Span) string {
	first := strconv.Itoa(s.From)
	if s.To-s.From == 1 {
		return first
	}
	if s.To == api.Forever {
		return first + "+"
	}
	return first + "-" + strconv.Itoa(s.To-1)
}

// Parse returns the set whose text is s.
func Parse(s string) ([]api.Span, api.Errno) {
	if s == never {
		return nil, api.OK
	}
	if strings.Count(s, ",") >= api.MaxParts {
		return nil, api.ErrForm
	}
	var l []api.Span
	for _, part := range strings.Split(s, ",") {
		span, ok := parseSpan(part)
		if !ok {
			return nil, api.ErrForm
		}
		l = append(l, span)
	}
	// parseSpan accepts other spellings of a span too; the one that Format writes is the only text of a set.
	if !Valid(l...) || Format(l) != s {
		return nil, api.ErrForm
	}
	return l, api.OK
}

// parseSpan returns a span that s may stand for. If s is the text of a span, it is that span.
func parseSpan(s string) (api.Span, bool) {
	start, open := strings.CutSuffix(s, "+")
	start, end, ranged := strings.Cut(start, "-")
	first, err := strconv.Atoi(start)
	if err != nil {
		return api.Span{}, false
	}
	if open {
		return api.Span{From: first, To: api.Forever}, true
	}
	if !ranged {
		return api.Span{From: first, To: first + 1}, true
	}
	last, err := strconv.Atoi(end)
	if err != nil {
		return api.Span{}, false
	}
	return api.Span{From: first, To: last + 1}, true
}
