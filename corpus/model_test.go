package corpus_test

import (
	"fmt"
	"reflect"
	"slices"
	"strings"
	"testing"

	"pandect/api"
	"pandect/corpus"
	"pandect/syntax"
)

// The model: it follows the definitions.

// actsThatCount returns the acts that are not duplicates, in the order of their publication.
func actsThatCount(l []api.Gazette) []api.Act {
	var out []api.Act
	for _, g := range l {
		for _, a := range g.Acts {
			if !slices.ContainsFunc(out, func(b api.Act) bool { return a.Number == b.Number }) {
				out = append(out, a)
			}
		}
	}
	return out
}

// precedes reports whether one position comes before the other in legal order: both are the day, the number of the act, and the index of the item.
func precedes(a, b [3]int) bool {
	for i := range a {
		if a[i] != b[i] {
			return a[i] < b[i]
		}
	}
	return false
}

// place returns the position of an item.
func place(d api.EnactedItem) [3]int { return [3]int{d.Day, d.Act, d.Item} }

// inLegalOrder takes the first one in legal order from the list as long as there is one.
func inLegalOrder[T any](l []T, place func(x T) [3]int) []T {
	var out []T
	for l = slices.Clone(l); len(l) > 0; {
		first := 0
		for i := range l {
			if precedes(place(l[i]), place(l[first])) {
				first = i
			}
		}
		out = append(out, l[first])
		l = slices.Delete(l, first, first+1)
	}
	return out
}

// published returns the items of the acts that count in legal order, as they were published.
func published(l []api.Gazette) []api.EnactedItem {
	var out []api.EnactedItem
	for _, a := range actsThatCount(l) {
		for i, it := range a.Items {
			out = append(out, api.EnactedItem{Act: a.Number, Item: i, Day: a.Day, It: it})
		}
	}
	return inLegalOrder(out, place)
}

func isAmendment(it api.Item) bool { return it.Kind >= 0 && it.Kind <= 6 }

// modelItems returns the enacted items in legal order.
func modelItems(l []api.Gazette) []api.EnactedItem {
	out := published(l)
	for i, d := range out {
		if !isAmendment(d.It) {
			continue
		}
		for _, c := range published(l) {
			if c.It.Kind == 11 && c.It.Act == d.Act && c.It.Item == d.Item && len(c.It.By) >= 1 && isAmendment(c.It.By[0]) {
				out[i].It = c.It.By[0]
			}
		}
	}
	return out
}

// modelFind returns the enacted item with that reference.
func modelFind(act, item int, l []api.Gazette) (api.EnactedItem, bool) {
	for _, d := range modelItems(l) {
		if d.Act == act && d.Item == item {
			return d, true
		}
	}
	return api.EnactedItem{}, false
}

// modelSince returns the smallest number of gazettes that contain the enacted item as all of them do, or 0.
func modelSince(act, item int, l []api.Gazette) int {
	want, ok := modelFind(act, item, l)
	for k := 1; k <= len(l) && ok; k++ {
		if d, found := modelFind(act, item, l[:k]); found && same(d, want) {
			return k
		}
	}
	return 0
}

// modelDuplicates returns the numbers that occur more than once.
func modelDuplicates(l []api.Gazette) []int {
	var all, out []int
	for _, g := range l {
		for _, a := range g.Acts {
			all = append(all, a.Number)
		}
	}
	slices.Sort(all)
	for i := 1; i < len(all); i++ {
		if all[i] == all[i-1] && (i == 1 || all[i] != all[i-2]) {
			out = append(out, all[i])
		}
	}
	return out
}

// modelPublished returns the number of gazettes ahead of the first one after the day.
func modelPublished(day int, l []api.Gazette) int {
	n := 0
	for n < len(l) && l[n].Day <= day {
		n++
	}
	return n
}

// Comparison with the model.

// rebuilt returns a copy of the value that shares nothing with it and whose lists have some spare capacity. It contains the elements that the function selects of each list.
func rebuilt(v reflect.Value, spare int, elements func(list reflect.Value) reflect.Value) reflect.Value {
	out := reflect.New(v.Type()).Elem()
	switch v.Kind() {
	case reflect.Struct:
		for i := range v.NumField() {
			out.Field(i).Set(rebuilt(v.Field(i), spare, elements))
		}
	case reflect.Slice:
		l := elements(v)
		if l.Len()+spare > 0 { // otherwise nil
			out.Set(reflect.MakeSlice(v.Type(), 0, l.Len()+spare))
		}
		for i := range l.Len() {
			out.Set(reflect.Append(out, rebuilt(l.Index(i), spare, elements)))
		}
	default:
		out.Set(v)
	}
	return out
}

// all selects the elements of a list.
func all(l reflect.Value) reflect.Value { return l }

// copyOf returns a copy of the value that shares nothing with it, and in which every empty list is nil.
func copyOf[T any](x T) T { return rebuilt(reflect.ValueOf(&x).Elem(), 0, all).Interface().(T) }

// same reports whether two values are equal throughout, where nil and empty lists are equal.
func same[T any](a, b T) bool { return reflect.DeepEqual(copyOf(a), copyOf(b)) }

// checkAll compares all functions with the model, for all references to items and those around them.
func checkAll(t *testing.T, l []api.Gazette) {
	t.Helper()
	wantActs := inLegalOrder(actsThatCount(l), func(a api.Act) [3]int { return [3]int{a.Day, a.Number} })
	if got := corpus.Acts(l...); !same(got, wantActs) {
		t.Fatalf("Acts(%.2000v): %.2000v, want %.2000v", l, got, wantActs)
	}
	want := modelItems(l)
	if got := corpus.EnactedItems(l...); !same(got, want) {
		t.Fatalf("EnactedItems(%.2000v): %.2000s, want %.2000s", l, texts(got), texts(want))
	}
	if got := corpus.Duplicates(l...); !slices.Equal(got, modelDuplicates(l)) {
		t.Fatalf("Duplicates(%.2000v): %v", l, got)
	}
	for _, g := range append(slices.Clone(l), api.Gazette{}) {
		for _, day := range []int{g.Day - 1, g.Day, g.Day + 1} {
			if got := corpus.PublishedBy(day, l...); got != modelPublished(day, l) {
				t.Fatalf("PublishedBy(%d, %.2000v): %d", day, l, got)
			}
		}
	}
	for _, a := range append(wantActs, api.Act{Number: 77}) {
		for item := -1; item <= len(a.Items); item++ {
			checkItem(t, a.Number, item, l)
		}
	}
}

// checkItem compares Find and KnownSince with the model.
func checkItem(t *testing.T, act, item int, l []api.Gazette) {
	t.Helper()
	want, found := modelFind(act, item, l)
	if got, ok := corpus.Find(act, item, l...); !same(got, want) || ok != found {
		t.Fatalf("Find(%d, %d, %.2000v): %.2000s %v, want %.2000s", act, item, l, texts([]api.EnactedItem{got}), ok, texts([]api.EnactedItem{want}))
	}
	if got := corpus.KnownSince(act, item, l...); got != modelSince(act, item, l) {
		t.Fatalf("KnownSince(%d, %d, %.2000v): %d, want %d", act, item, l, got, modelSince(act, item, l))
	}
}

// Samples.

// item returns the instruction with the given text.
func item(text string) api.Item {
	it, at, errno := syntax.Parse(text)
	if errno != api.OK {
		panic(fmt.Sprint(text, at))
	}
	return it
}

// enacted returns an act with instructions of those texts.
func enacted(number, day int, l ...string) api.Act {
	a := api.Act{Number: number, Title: fmt.Sprint("Act ", number), Day: day, Start: api.Start{Kind: api.OnDay, Day: 50}}
	for _, text := range l {
		a.Items = append(a.Items, item(text))
	}
	return a
}

// gazette returns a gazette of the day with those acts. Number and Prior, which do not matter, are those of no chain.
func gazette(day int, acts ...api.Act) api.Gazette {
	return api.Gazette{Number: 7, Day: day, Prior: "x", Acts: acts}
}

// gazettes returns one gazette for each act.
func gazettes(acts ...api.Act) []api.Gazette {
	var out []api.Gazette
	for i, a := range acts {
		out = append(out, gazette(i, a))
	}
	return out
}

// texts describes items.
func texts(l []api.EnactedItem) string {
	var out []string
	for _, d := range l {
		text, errno := syntax.Format(d.It)
		if errno != api.OK {
			text = fmt.Sprintf("kind %d", d.It.Kind)
		}
		out = append(out, fmt.Sprintf("%d.%d on %d: %s", d.Act, d.Item, d.Day, text))
	}
	return strings.Join(out, "; ")
}

// expectItems expects the enacted items.
func expectItems(t *testing.T, want string, l ...api.Gazette) {
	t.Helper()
	if got := texts(corpus.EnactedItems(l...)); got != want {
		t.Errorf("%v:\n%s\nwant\n%s", l, got, want)
	}
	checkAll(t, l)
}

// expectActs expects the acts that count: numbers and titles.
func expectActs(t *testing.T, want string, l ...api.Gazette) {
	t.Helper()
	var out []string
	for _, a := range corpus.Acts(l...) {
		out = append(out, fmt.Sprintf("%d %s", a.Number, a.Title))
	}
	if got := strings.Join(out, ", "); got != want {
		t.Errorf("%v: %s, want %s", l, got, want)
	}
	checkAll(t, l)
}
