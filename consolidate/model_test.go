package consolidate_test

import (
	"cmp"
	"fmt"
	"reflect"
	"slices"
	"strings"
	"testing"

	"pandect/act"
	"pandect/api"
	"pandect/consolidate"
	"pandect/enact"
	"pandect/inforce"
	"pandect/plaintext"
	"pandect/syntax"
	"pandect/unit"
)

// The model: it applies item by item. It asks layer 29 which items are in force, and layer 23 for the effect of a single one.

// fold applies the items one after the other to the empty book and returns the book and the failures.
func fold(l []api.EnactedItem) (api.Unit, []api.Failure) {
	u := api.Unit{Kind: api.Book}
	var failures []api.Failure
	for _, d := range l {
		after, errno := enact.Apply(u, d)
		if errno != api.OK {
			failures = append(failures, api.Failure{Act: d.Act, Item: d.Item, Why: errno})
			continue
		}
		u = after
	}
	return u, failures
}

// bookOf returns the book after the items.
func bookOf(l []api.EnactedItem) api.Unit {
	u, _ := fold(l)
	return u
}

// dayOf returns the day of the act that is published first with that number.
func dayOf(number int, l []api.Gazette) (int, bool) {
	for _, g := range l {
		for _, a := range g.Acts {
			if a.Number == number {
				return a.Day, true
			}
		}
	}
	return 0, false
}

// precedes reports whether one position comes before the other in legal order: both are the day, the number of the act, and the index of the item.
func precedes(a, b [3]int) bool {
	for i := range a {
		if a[i] != b[i] {
			return a[i] < b[i]
		}
	}
	return false
}

// split returns the items in force before the reference, and the referenced item if it is in force.
func split(day int, purpose string, at api.ItemRef, l []api.Gazette) (before, referenced []api.EnactedItem) {
	enacted, ok := dayOf(at.Act, l)
	if !ok {
		return nil, nil
	}
	for _, d := range inforce.On(day, purpose, l...) {
		if precedes([3]int{d.Day, d.Act, d.Item}, [3]int{enacted, at.Act, at.Item}) {
			before = append(before, d)
		}
		if d.Act == at.Act && d.Item == at.Item {
			referenced = append(referenced, d)
		}
	}
	return before, referenced
}

// Comparison with the model.

// refsOf returns references to all items of all acts, to those around them, and to acts around the others and ones that do not exist.
func refsOf(l []api.Gazette) []api.ItemRef {
	refs := []api.ItemRef{{}, {Act: 77}, {Act: 77, Item: -1}, {Act: -1}}
	for _, g := range l {
		for _, a := range g.Acts {
			for _, number := range []int{a.Number - 1, a.Number, a.Number + 1} {
				for item := -2; item <= len(a.Items)+1; item++ {
					refs = append(refs, api.ItemRef{Act: number, Item: item})
				}
			}
		}
	}
	slices.SortFunc(refs, func(a, b api.ItemRef) int { return cmp.Or(cmp.Compare(a.Act, b.Act), cmp.Compare(a.Item, b.Item)) })
	return slices.Compact(refs)
}

// daysOf returns the breakpoints, the days before and after them, and some that are not valid.
func daysOf(l []api.Gazette) []int {
	out := []int{-1 << 40, -1, 0, 1, 1<<20 - 1, 1 << 20, 1<<20 + 1, 1 << 40}
	for _, day := range inforce.Breakpoints(l...) {
		out = append(out, day-1, day, day+1)
	}
	slices.Sort(out)
	return slices.Compact(out)
}

// purposesOf returns the purposes of the amendments, the empty one and an unknown one.
func purposesOf(l []api.Gazette) []string { return append(inforce.Purposes(l...), "", "unknown") }

// checkAll compares all functions with the model, for the days around the breakpoints, all purposes and all references.
func checkAll(t *testing.T, l []api.Gazette) {
	t.Helper()
	for _, day := range daysOf(l) {
		for _, purpose := range purposesOf(l) {
			check(t, day, purpose, l)
		}
	}
}

// check compares all functions with the model, for all references.
func check(t *testing.T, day int, purpose string, l []api.Gazette) {
	t.Helper()
	want, failures := fold(inforce.On(day, purpose, l...))
	if got := consolidate.Book(day, purpose, l...); !unit.Equal(got, want) {
		t.Fatalf("%sBook(%d, %q):\n%s\nwant\n%s", about(l), day, purpose, text(got), text(want))
	}
	if got := consolidate.Failures(day, purpose, l...); !slices.Equal(got, failures) {
		t.Fatalf("%sFailures(%d, %q): %v, want %v", about(l), day, purpose, got, failures)
	}
	for _, at := range refsOf(l) {
		checkAt(t, day, purpose, at, l)
	}
}

// checkAt compares the functions that take a reference with the model.
func checkAt(t *testing.T, day int, purpose string, at api.ItemRef, l []api.Gazette) {
	t.Helper()
	before, referenced := split(day, purpose, at, l)
	if got, want := consolidate.Before(day, purpose, at, l...), bookOf(before); !unit.Equal(got, want) {
		t.Fatalf("%sBefore(%d, %q, %v):\n%s\nwant\n%s", about(l), day, purpose, at, text(got), text(want))
	}
	if got, want := consolidate.Through(day, purpose, at, l...), bookOf(append(before, referenced...)); !unit.Equal(got, want) {
		t.Fatalf("%sThrough(%d, %q, %v):\n%s\nwant\n%s", about(l), day, purpose, at, text(got), text(want))
	}
	_, failures := fold(append(before, referenced...))
	fails := slices.ContainsFunc(failures, func(f api.Failure) bool { return f.Act == at.Act && f.Item == at.Item })
	if got, want := consolidate.HasEffect(day, purpose, at, l...), len(referenced) == 1 && !fails; got != want {
		t.Fatalf("%sHasEffect(%d, %q, %v): %v", about(l), day, purpose, at, got)
	}
}

// Samples.

// enacted returns an act with the commencement rule and the instructions of those texts.
func enacted(number, day int, start string, l ...string) api.Act {
	text := fmt.Sprintf("act %d \"Act %d\" day %d %s;%s", number, number, day, start, strings.Join(append(l, ""), ";"))
	a, at, errno := act.Parse(text)
	if errno != api.OK {
		panic(fmt.Sprint(text, at))
	}
	return a
}

// insertion returns the text of an instruction that puts a tree somewhere.
func insertion(where string, lines ...string) string {
	return where + " insert \"" + strings.Join(append(lines, ""), "\n") + "\""
}

// gazette returns a gazette with those acts. Number, Day and Prior, which do not matter, are those of no chain.
func gazette(acts ...api.Act) api.Gazette {
	return api.Gazette{Number: 7, Day: -3, Prior: "x", Acts: acts}
}

// gazettes returns one gazette for each act.
func gazettes(acts ...api.Act) []api.Gazette {
	var out []api.Gazette
	for _, a := range acts {
		out = append(out, gazette(a))
	}
	return out
}

// text returns the lines of a book without the first one, divided by slashes.
func text(u api.Unit) string {
	lines := plaintext.Lines(u)
	for i := range lines {
		lines[i] = strings.TrimPrefix(lines[i], "  ")
	}
	if len(lines) == 0 || lines[0] != "book" {
		return fmt.Sprintf("no book: %.500s", fmt.Sprint(u))
	}
	return strings.Join(lines[1:], " / ")
}

// failuresText describes failures.
func failuresText(l []api.Failure) string {
	var out []string
	for _, f := range l {
		out = append(out, fmt.Sprintf("%d.%d %d", f.Act, f.Item, f.Why))
	}
	return strings.Join(out, ", ")
}

// about describes gazettes.
func about(l []api.Gazette) string {
	var out strings.Builder
	for _, g := range l {
		out.WriteString("gazette\n")
		for _, a := range g.Acts {
			fmt.Fprintf(&out, "act %d day %d %v\n", a.Number, a.Day, a.Start)
			for _, it := range a.Items {
				text, errno := syntax.Format(it)
				if errno != api.OK {
					text = fmt.Sprintf("%.200s", fmt.Sprint(it))
				}
				out.WriteString("  " + text + "\n")
			}
		}
	}
	return fmt.Sprintf("%.4000s", out.String())
}

// expectBook expects the lines of a book.
func expectBook(t *testing.T, day int, purpose, want string, l ...api.Gazette) {
	t.Helper()
	if got := text(consolidate.Book(day, purpose, l...)); got != want {
		t.Errorf("%sBook(%d, %q): %s, want %s", about(l), day, purpose, got, want)
	}
	check(t, day, purpose, l)
}

// expectFailures expects the failures: acts, indices and reasons.
func expectFailures(t *testing.T, day int, purpose, want string, l ...api.Gazette) {
	t.Helper()
	if got := failuresText(consolidate.Failures(day, purpose, l...)); got != want {
		t.Errorf("%sFailures(%d, %q): %s, want %s", about(l), day, purpose, got, want)
	}
	check(t, day, purpose, l)
}

// rebuilt returns a copy of the value that shares nothing with it and whose lists have some spare capacity. It contains the elements that the function selects of each list.
func rebuilt(v reflect.Value, spare int, elements func(list reflect.Value) reflect.Value) reflect.Value {
	out := reflect.New(v.Type()).Elem()
	switch v.Kind() {
	case reflect.Struct:
		for i := range v.NumField() {
			out.Field(i).Set(rebuilt(v.Field(i), spare, elements))
		}
	case reflect.Slice:
		l := elements(v)
		if l.Len()+spare > 0 { // otherwise nil
			out.Set(reflect.MakeSlice(v.Type(), 0, l.Len()+spare))
		}
		for i := range l.Len() {
			out.Set(reflect.Append(out, rebuilt(l.Index(i), spare, elements)))
		}
	default:
		out.Set(v)
	}
	return out
}

// all selects the elements of a list.
func all(l reflect.Value) reflect.Value { return l }

// copyOf returns a copy of the value that shares nothing with it, and in which every empty list is nil.
func copyOf[T any](x T) T { return rebuilt(reflect.ValueOf(&x).Elem(), 0, all).Interface().(T) }

// same reports whether two values are equal throughout, where nil and empty lists are equal.
func same[T any](a, b T) bool { return reflect.DeepEqual(copyOf(a), copyOf(b)) }
