package inforce_test

import (
	"fmt"
	"reflect"
	"slices"
	"strings"
	"testing"

	"pandect/act"
	"pandect/api"
	"pandect/corpus"
	"pandect/dateset"
	"pandect/inforce"
	"pandect/syntax"
)

// The model: it follows the definitions of chapters 27 and 29, day by day. It asks layer 28 only for the enacted items.

type model struct {
	gazettes          []api.Gazette
	items, amendments []api.EnactedItem // in legal order
	days              []int             // 0 and all valid days that the gazettes name, in ascending order: what is in force changes on no other day
}

func modelOf(l []api.Gazette) model {
	m := model{gazettes: l, items: corpus.EnactedItems(l...), days: []int{0}}
	for _, g := range l {
		for _, a := range g.Acts {
			m.days = append(m.days, a.Start.Day)
		}
	}
	for _, d := range m.items {
		m.days = append(m.days, d.It.Start.Day, d.It.Day)
		if d.It.Kind >= 0 && d.It.Kind <= 6 {
			m.amendments = append(m.amendments, d)
		}
	}
	m.days = slices.DeleteFunc(m.days, func(day int) bool { return day < 0 || day > 1<<20 })
	slices.Sort(m.days)
	m.days = slices.Compact(m.days)
	return m
}

// start returns the start of the act that is published first with that number.
func (m model) start(number int) api.Start {
	for _, g := range m.gazettes {
		for _, a := range g.Acts {
			if a.Number == number {
				return a.Start
			}
		}
	}
	return api.Start{}
}

// hasBegun reports whether the day is in the initial set of the start.
func (m model) hasBegun(day int, s api.Start) bool {
	switch s.Kind {
	case 1:
		return s.Day <= day
	case 3:
		for _, o := range m.items {
			if o.It.Kind == 10 && o.It.Event == s.Event {
				return o.It.Day <= day
			}
		}
	}
	return false
}

// isOn reports whether the day is one of the days of the amendment.
func (m model) isOn(day int, d api.EnactedItem) bool {
	if day < 0 || day > 1<<20 {
		return false
	}
	s := d.It.Start
	if s.Kind == 0 {
		s = m.start(d.Act)
	}
	on := m.hasBegun(day, s)
	for _, o := range m.items {
		if o.It.Act != d.Act || o.It.Item != d.Item && o.It.Item != -1 || o.It.Day > day {
			continue
		}
		switch o.It.Kind {
		case 7, 9:
			on = true
		case 8:
			on = false
		}
	}
	return on
}

// spans returns the days of the amendment.
func (m model) spans(d api.EnactedItem) []api.Span {
	var out []api.Span
	for i, day := range m.days {
		end := 1<<20 + 1
		if i+1 < len(m.days) {
			end = m.days[i+1]
		}
		switch n := len(out); {
		case !m.isOn(day, d):
		case n > 0 && out[n-1].To == day:
			out[n-1].To = end
		default:
			out = append(out, api.Span{From: day, To: end})
		}
	}
	return out
}

// on returns the amendments that are in force.
func (m model) on(day int, purpose string) []api.EnactedItem {
	return slices.DeleteFunc(slices.Clone(m.amendments), func(d api.EnactedItem) bool {
		return !m.isOn(day, d) || d.It.For != "" && d.It.For != purpose
	})
}

// breakpoints returns the days on which a span begins or before which one ends, and 0.
func (m model) breakpoints() []int {
	return slices.DeleteFunc(slices.Clone(m.days), func(day int) bool {
		changes := slices.ContainsFunc(m.amendments, func(d api.EnactedItem) bool { return m.isOn(day, d) != m.isOn(day-1, d) })
		return day != 0 && !changes
	})
}

// interval counts the breakpoints up to the day.
func (m model) interval(day int) int {
	n := -1
	for _, b := range m.breakpoints() {
		if day >= 0 && day <= 1<<20 && b <= day {
			n++
		}
	}
	return n
}

// purposes returns the purposes of the amendments.
func (m model) purposes() []string {
	seen := map[string]bool{"": true}
	var out []string
	for _, d := range m.amendments {
		if !seen[d.It.For] {
			seen[d.It.For] = true
			out = append(out, d.It.For)
		}
	}
	slices.SortFunc(out, strings.Compare)
	return out
}

// pending returns references to the amendments without any day.
func (m model) pending() []api.ItemRef {
	var out []api.ItemRef
	for _, d := range m.amendments {
		if !slices.ContainsFunc(m.days, func(day int) bool { return m.isOn(day, d) }) {
			out = append(out, api.ItemRef{Act: d.Act, Item: d.Item})
		}
	}
	return out
}

// Comparison with the model.

// around returns the days, those before and after them, and some that are not valid.
func around(days []int) []int {
	out := []int{-1 << 40, -1, 0, 1, 1<<20 - 1, 1 << 20, 1<<20 + 1, 1 << 40}
	for _, day := range days {
		out = append(out, day-1, day, day+1)
	}
	slices.Sort(out)
	return slices.Compact(out)
}

// checkAll compares all functions with the model: for all references to items and those around them, all days around those that the gazettes name, and all purposes.
func checkAll(t *testing.T, l []api.Gazette) {
	t.Helper()
	m := modelOf(l)
	checkDays(t, m)
	if got, want := inforce.Purposes(l...), m.purposes(); !slices.Equal(got, want) {
		t.Fatalf("%s\nPurposes: %q, want %q", about(l), got, want)
	}
	if got, want := inforce.Pending(l...), m.pending(); !slices.Equal(got, want) {
		t.Fatalf("%s\nPending: %v, want %v", about(l), got, want)
	}
	if got, want := inforce.Breakpoints(l...), m.breakpoints(); !slices.Equal(got, want) {
		t.Fatalf("%s\nBreakpoints: %v, want %v", about(l), got, want)
	}
	for _, day := range around(m.days) {
		if got, want := inforce.Interval(day, l...), m.interval(day); got != want {
			t.Fatalf("%s\nInterval(%d): %d, want %d", about(l), day, got, want)
		}
		for _, purpose := range append([]string{"", "unknown"}, m.purposes()...) {
			if got, want := inforce.On(day, purpose, l...), m.on(day, purpose); !same(got, want) {
				t.Fatalf("%s\nOn(%d, %q): %s, want %s", about(l), day, purpose, places(got), places(want))
			}
		}
	}
}

// checkDays compares Days with the model.
func checkDays(t *testing.T, m model) {
	t.Helper()
	want := map[api.ItemRef][]api.Span{}
	for _, d := range m.amendments {
		want[api.ItemRef{Act: d.Act, Item: d.Item}] = m.spans(d)
	}
	refs := []api.ItemRef{{Act: 77}, {Act: 77, Item: -1}, {Act: -1, Item: -1}}
	for _, a := range corpus.Acts(m.gazettes...) {
		for item := -1; item <= len(a.Items); item++ {
			refs = append(refs, api.ItemRef{Act: a.Number, Item: item})
		}
	}
	for _, r := range refs {
		if got := inforce.Days(r.Act, r.Item, m.gazettes...); !slices.Equal(got, want[r]) {
			t.Fatalf("%s\nDays(%d, %d): %v, want %v", about(m.gazettes), r.Act, r.Item, got, want[r])
		}
	}
}

// Samples.

// enacted returns an act with the commencement rule and the instructions of those texts.
func enacted(number, day int, start string, l ...string) api.Act {
	text := fmt.Sprintf("act %d \"Act %d\" day %d %s;%s", number, number, day, start, strings.Join(append(l, ""), ";"))
	a, at, errno := act.Parse(text)
	if errno != api.OK {
		panic(fmt.Sprint(text, at))
	}
	return a
}

// orders returns an act of the day with those instructions, which itself commences by order.
func orders(number, day int, l ...string) api.Act { return enacted(number, day, "by order", l...) }

// item returns the instruction with the given text.
func item(text string) api.Item {
	it, at, errno := syntax.Parse(text)
	if errno != api.OK {
		panic(fmt.Sprint(text, at))
	}
	return it
}

// gazette returns a gazette with those acts. Number, Day and Prior, which do not matter, are those of no chain.
func gazette(acts ...api.Act) api.Gazette {
	return api.Gazette{Number: 7, Day: -3, Prior: "x", Acts: acts}
}

// gazettes returns one gazette for each act.
func gazettes(acts ...api.Act) []api.Gazette {
	var out []api.Gazette
	for _, a := range acts {
		out = append(out, gazette(a))
	}
	return out
}

// about describes gazettes.
func about(l []api.Gazette) string {
	var out strings.Builder
	for _, g := range l {
		out.WriteString("gazette\n")
		for _, a := range g.Acts {
			fmt.Fprintf(&out, "act %d day %d %v\n", a.Number, a.Day, a.Start)
			for _, it := range a.Items {
				text, errno := syntax.Format(it)
				if errno != api.OK {
					text = fmt.Sprintf("%.200s", fmt.Sprint(it))
				}
				out.WriteString("  " + text + "\n")
			}
		}
	}
	return fmt.Sprintf("%.4000s", out.String())
}

// places describes items by their acts and indices.
func places(l []api.EnactedItem) string {
	var out []string
	for _, d := range l {
		out = append(out, fmt.Sprintf("%d.%d", d.Act, d.Item))
	}
	return strings.Join(out, " ")
}

// expectDays expects the days of an amendment, as dateset.Format writes them.
func expectDays(t *testing.T, act, item int, want string, l ...api.Gazette) {
	t.Helper()
	if got := dateset.Format(inforce.Days(act, item, l...)); got != want {
		t.Errorf("%s\nDays(%d, %d): %s, want %s", about(l), act, item, got, want)
	}
	checkAll(t, l)
}

// expectOn expects the amendments in force, given by their acts and indices.
func expectOn(t *testing.T, day int, purpose, want string, l ...api.Gazette) {
	t.Helper()
	if got := places(inforce.On(day, purpose, l...)); got != want {
		t.Errorf("%s\nOn(%d, %q): %s, want %s", about(l), day, purpose, got, want)
	}
}

// rebuilt returns a copy of the value that shares nothing with it and whose lists have some spare capacity. It contains the elements that the function selects of each list.
func rebuilt(v reflect.Value, spare int, elements func(list reflect.Value) reflect.Value) reflect.Value {
	out := reflect.New(v.Type()).Elem()
	switch v.Kind() {
	case reflect.Struct:
		for i := range v.NumField() {
			out.Field(i).Set(rebuilt(v.Field(i), spare, elements))
		}
	case reflect.Slice:
		l := elements(v)
		if l.Len()+spare > 0 { // otherwise nil
			out.Set(reflect.MakeSlice(v.Type(), 0, l.Len()+spare))
		}
		for i := range l.Len() {
			out.Set(reflect.Append(out, rebuilt(l.Index(i), spare, elements)))
		}
	default:
		out.Set(v)
	}
	return out
}

// all selects the elements of a list.
func all(l reflect.Value) reflect.Value { return l }

// copyOf returns a copy of the value that shares nothing with it, and in which every empty list is nil.
func copyOf[T any](x T) T { return rebuilt(reflect.ValueOf(&x).Elem(), 0, all).Interface().(T) }

// same reports whether two values are equal throughout, where nil and empty lists are equal.
func same[T any](a, b T) bool { return reflect.DeepEqual(copyOf(a), copyOf(b)) }
