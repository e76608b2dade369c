package consolidate_test

import (
	"fmt"
	"math"
	"math/rand"
	"reflect"
	"strings"
	"testing"

	"pandect/api"
	"pandect/consolidate"
	"pandect/enact"
	"pandect/unit"
)

// Arguments and results

// roomy returns a copy of the value that shares nothing with it and whose lists have spare capacity.
func roomy[T any](x T) T { return rebuilt(reflect.ValueOf(&x).Elem(), 3, all).Interface().(T) }

// whole returns a copy of the value whose lists contain what their spare capacity contains too.
func whole[T any](x T) T {
	return rebuilt(reflect.ValueOf(&x).Elem(), 0, func(l reflect.Value) reflect.Value { return l.Slice(0, l.Cap()) }).Interface().(T)
}

// spoil overwrites everything in the lists of the value, up to their capacities: numbers by -9, texts by "spoiled".
func spoil[T any](x *T) {
	var overwrite func(v reflect.Value)
	overwrite = func(v reflect.Value) {
		switch v.Kind() {
		case reflect.Struct:
			for i := range v.NumField() {
				overwrite(v.Field(i))
			}
		case reflect.Slice:
			l := v.Slice(0, v.Cap())
			for i := range l.Len() {
				overwrite(l.Index(i))
			}
		case reflect.Int:
			v.SetInt(-9)
		case reflect.String:
			v.SetString("spoiled")
		}
	}
	overwrite(reflect.ValueOf(x).Elem())
}

// varied returns gazettes with an amendment of each kind with and without an effect, and with orders.
func varied() []api.Gazette {
	section := func(n int) string {
		return insertion("into all last", fmt.Sprintf("section %d: h i | a b", n), "  paragraph 1: j | c d", "    note 1 | e")
	}
	return gazettes(
		enacted(1, 5, "from day 10", section(1), section(2), section(3), section(2)),
		enacted(2, 6, "from day 10", "repeal section 3", "repeal section 3", `in section 1 for "a" put "x y" each`, `in section 1 for "z" put "x" each`, `in section 1 behind "b" put "v w" each`, `in section 1 behind "z" put "x" each`, `head section 2 as "k l" read for tax`, `head section 9 as "k"`),
		enacted(3, 7, "by order", "number section 2 as 4", "number section 2 as 4", "move section 4 ahead of section 1", "move section 4 into section 4 first"),
		enacted(4, 8, "by order", "commence act 3 from day 12", "expire act 3 from day 20", "correct act 1 item 2 as "+section(3), "happen peace on day 9"),
	)
}

// results is what the functions return, on some days, for some purposes and at some references.
type results struct {
	Books    []api.Unit
	Failures [][]api.Failure
}

// resultsOf calls all functions.
func resultsOf(l []api.Gazette) results {
	var out results
	for _, day := range []int{9, 10, 12} {
		for _, purpose := range []string{"", "tax"} {
			out.Books = append(out.Books, consolidate.Book(day, purpose, l...))
			out.Failures = append(out.Failures, consolidate.Failures(day, purpose, l...))
			for _, at := range []api.ItemRef{{Act: 1, Item: 1}, {Act: 2, Item: 2}, {Act: 2, Item: 4}, {Act: 3, Item: 2}, {Act: 9}} {
				out.Books = append(out.Books, consolidate.Through(day, purpose, at, l...), consolidate.Before(day, purpose, at, l...))
				consolidate.HasEffect(day, purpose, at, l...)
			}
		}
	}
	return out
}

// TestVaried looks at the sample itself.
func TestVaried(t *testing.T) {
	kids := " /   paragraph 1: j | c d /     note 1 | e"
	expectBook(t, 10, "tax", "section 1: h i | x y b v w"+kids+" / section 2: k l | a b"+kids, varied()...)
	expectBook(t, 12, "", "section 4: h i | a b"+kids+" / section 1: h i | x y b v w"+kids, varied()...)
	expectFailures(t, 12, "", fmt.Sprintf("1.3 %d, 2.1 %d, 2.3 %d, 2.5 %d, 2.7 %d, 3.1 %d, 3.3 %d", api.ErrDuplicateLabel, api.ErrNoTarget, api.ErrMissing, api.ErrMissing, api.ErrNoTarget, api.ErrNoTarget, api.ErrKind), varied()...)
	check(t, 12, "tax", varied())
}

// TestArgumentsAndResults changes the results, up to their capacities, and looks at the arguments and at other results, then the arguments, and looks at the results.
func TestArgumentsAndResults(t *testing.T) {
	l := roomy(varied())
	got := resultsOf(l)
	want, other := copyOf(got), resultsOf(l)
	spoil(&got)
	if !reflect.DeepEqual(whole(l), whole(roomy(varied()))) {
		t.Fatal("an argument is modified")
	}
	if !same(other, want) || !same(resultsOf(l), want) {
		t.Fatal("results share memory")
	}
	got = resultsOf(l)
	spoil(&l)
	if !same(got, want) || !same(resultsOf(varied()), want) {
		t.Fatal("an argument, or a result, is kept")
	}
}

// TestPartsOfResults changes the lists of one unit of a book, and looks at the other units.
func TestPartsOfResults(t *testing.T) {
	for _, day := range []int{10, 12} {
		want := consolidate.Book(day, "tax", varied()...)
		for i := range want.Kids {
			book := consolidate.Book(day, "tax", varied()...)
			spoil(&book.Kids[i].Head)
			spoil(&book.Kids[i].Words)
			spoil(&book.Kids[i].Kids[0].Words)
			book.Kids[i] = copyOf(want.Kids[i])
			if !unit.Equal(book, want) {
				t.Error(day, i, "the units of a result share memory")
			}
		}
	}
}

// TestNothingIsKept calls the functions in between with other arguments.
func TestNothingIsKept(t *testing.T) {
	r := rand.New(rand.NewSource(8))
	want := copyOf(resultsOf(varied()))
	for range 20 {
		resultsOf(randomGazettes(r))
		if !same(resultsOf(varied()), want) {
			t.Fatal("the results depend on earlier calls")
		}
	}
}

// P1: all arguments

// deep returns a tree of that depth.
func deep(n int) api.Unit {
	u := api.Unit{}
	for range n {
		u = api.Unit{Kind: api.Para, Label: "1", Kids: []api.Unit{u}}
	}
	return u
}

// TestDeepItems gives the functions items with deep trees.
func TestDeepItems(t *testing.T) {
	nested := api.Item{Kind: api.Correct, Act: 1, Item: 0}
	for range 1 << 11 {
		nested = api.Item{Kind: api.Correct, Act: 1, Item: 0, By: []api.Item{nested}}
	}
	a := enacted(1, 5, "from day 0", insertion("into all last", "section 1"))
	a.Items = append(a.Items, api.Item{At: []api.Step{{Kind: api.Section, Label: "1"}}, Unit: deep(1 << 11)}, nested)
	expectBook(t, 3, "", "section 1", gazettes(a)...)
	expectFailures(t, 3, "", fmt.Sprint("1.1 ", int(api.ErrArg)), gazettes(a)...)
}

// TestOddArguments gives the functions extreme numbers and long strings.
func TestOddArguments(t *testing.T) {
	long := strings.Repeat("\x00\xff", 1<<12)
	extremes := []int{math.MinInt, math.MinInt + 1, -1, 0, 1, api.MaxDay, api.Forever, math.MaxInt}
	l := gazettes(enacted(1, 5, "from day 0", insertion("into all last", "section 1 | a")))
	for _, x := range extremes {
		a := api.Act{Number: x, Title: long, Day: -x, Start: api.Start{Kind: api.OnDay, Day: x, Event: long}}
		for i, y := range extremes {
			a.Items = append(a.Items,
				api.Item{Kind: i % 7, For: long[:i], Label: long, Where: x, Nth: y, At: []api.Step{{Kind: x, Label: long}}, Unit: deep(9), Start: api.Start{Kind: i % 5, Day: y, Event: long}},
				api.Item{Kind: i % 7, At: []api.Step{{Kind: api.Section, Label: "1"}}, New: []string{long}, Old: []string{"a"}, Unit: api.Unit{Kind: y}, Start: api.Start{Kind: api.OnDay}},
				api.Item{Kind: api.Commence + i%4, Act: y, Item: x, Day: y, Event: long, By: []api.Item{{}}})
		}
		l = append(l, api.Gazette{Number: x, Day: x, Prior: long, Acts: []api.Act{a, a}})
	}
	l[len(l)-1].Acts = append(l[len(l)-1].Acts, enacted(7, 50, "from day 0", insertion("into section 1 last", "paragraph 1")))
	for _, day := range extremes {
		for _, purpose := range []string{"", long[:3], long} {
			want, failures := fold(nil)
			if day >= 0 && day <= api.MaxDay {
				check(t, day, purpose, append(l[:1:1], l[len(l)-1]))
				want, failures = consolidate.Through(day, purpose, api.ItemRef{Act: 7, Item: math.MaxInt}, l...), consolidate.Failures(day, purpose, l...)
				if len(failures) < 8 {
					t.Error(day, failures)
				}
			}
			if got := consolidate.Book(day, purpose, l...); !unit.Equal(got, want) {
				t.Error(day, text(got))
			}
			for _, at := range []api.ItemRef{{Act: day, Item: 0}, {Act: day, Item: 1}, {Act: 1, Item: day}, {Act: day, Item: day}, {Act: math.MinInt, Item: math.MaxInt}} {
				checkAt(t, day, purpose, at, l)
			}
		}
	}
	if got := consolidate.Book(math.MaxInt, long); !same(got, enact.Empty()) {
		t.Error(got)
	}
}

// TestManyItems gives the functions many acts, of which every second one has an effect.
func TestManyItems(t *testing.T) {
	const count = 1000
	l := gazettes(enacted(1, 0, "from day 0", insertion("into all last", "section 1")))
	for i := 2; i <= count; i++ {
		l = append(l, gazette(enacted(i, i/2, "from day 0", fmt.Sprintf("head section 1 as \"h%d\"", i), "repeal section 2")))
	}
	expectText := func(got api.Unit, want string) {
		t.Helper()
		if text(got) != want {
			t.Error(text(got), want)
		}
	}
	expectText(consolidate.Book(0, "", l...), fmt.Sprintf("section 1: h%d", count))
	expectText(consolidate.Through(0, "", api.ItemRef{Act: 500}, l...), "section 1: h500")
	expectText(consolidate.Before(0, "", api.ItemRef{Act: 500}, l...), "section 1: h499")
	if got := consolidate.Failures(0, "", l...); len(got) != count-1 || got[0] != (api.Failure{Act: 2, Item: 1, Why: api.ErrNoTarget}) || got[count-2].Act != count {
		t.Error(len(got))
	}
	if !consolidate.HasEffect(0, "", api.ItemRef{Act: count}, l...) || consolidate.HasEffect(0, "", api.ItemRef{Act: count, Item: 1}, l...) {
		t.Error("HasEffect")
	}
}
