package inforce_test

import (
	"math"
	"math/rand"
	"reflect"
	"slices"
	"strings"
	"testing"

	"pandect/api"
	"pandect/dateset"
	"pandect/inforce"
)

// Arguments and results

// roomy returns a copy of the value that shares nothing with it and whose lists have spare capacity.
func roomy[T any](x T) T { return rebuilt(reflect.ValueOf(&x).Elem(), 3, all).Interface().(T) }

// whole returns a copy of the value whose lists contain what their spare capacity contains too.
func whole[T any](x T) T {
	return rebuilt(reflect.ValueOf(&x).Elem(), 0, func(l reflect.Value) reflect.Value { return l.Slice(0, l.Cap()) }).Interface().(T)
}

// spoil overwrites everything in the lists of the value, up to their capacities: numbers by -9, texts by "spoiled".
func spoil[T any](x *T) {
	var overwrite func(v reflect.Value)
	overwrite = func(v reflect.Value) {
		switch v.Kind() {
		case reflect.Struct:
			for i := range v.NumField() {
				overwrite(v.Field(i))
			}
		case reflect.Slice:
			l := v.Slice(0, v.Cap())
			for i := range l.Len() {
				overwrite(l.Index(i))
			}
		case reflect.Int:
			v.SetInt(-9)
		case reflect.String:
			v.SetString("spoiled")
		}
	}
	overwrite(reflect.ValueOf(x).Elem())
}

// fullItem returns an instruction of the kind all of whose lists have elements.
func fullItem(kind int) api.Item {
	word := func(s string) []api.Word { return []api.Word{{Text: s, By: api.Mark{Act: 3, Item: 1}}, {Text: "w"}} }
	it := api.Item{Kind: kind, At: []api.Step{{Kind: 1, Label: "1"}, {Kind: 2, Label: "3"}}, To: []api.Step{{Kind: 1, Label: "2"}}, Old: []string{"o", "p"}, New: []string{"q"}, For: "tax", Act: 4, Item: kind - 7, Day: 20}
	it.Unit = api.Unit{Kind: api.Section, Label: "9", Head: word("a"), Words: word("b"), Kids: []api.Unit{{Kind: api.Para, Head: word("c"), Words: word("d"), Kids: []api.Unit{{Words: word("e")}}}}}
	it.By = []api.Item{{Kind: api.Heading, For: "trade", Old: []string{"s"}, At: []api.Step{{Kind: 3}}, Unit: api.Unit{Words: word("f")}, By: []api.Item{{New: []string{"t"}}}}, {Kind: api.Correct, By: []api.Item{{Old: []string{"u"}}}}}
	return it
}

// varied returns gazettes with items of all kinds, whose lists have elements. Some amendments are pending, some expire.
func varied() []api.Gazette {
	four, five := enacted(4, 5, "from day 10"), enacted(5, 4, "by order")
	for kind := -1; kind <= 12; kind++ {
		four.Items, five.Items = append(four.Items, fullItem(kind)), append(five.Items, fullItem(12-kind))
	}
	return append(sample()[1:], gazette(four), gazette(five, four))
}

// results is what the functions return.
type results struct {
	Days        [][]api.Span
	On          [][]api.EnactedItem
	Breakpoints []int
	Purposes    []string
	Pending     []api.ItemRef
}

// resultsOf calls all functions.
func resultsOf(l []api.Gazette) results {
	var out results
	for act := 4; act <= 7; act++ {
		for item := range 14 {
			out.Days = append(out.Days, inforce.Days(act, item, l...))
		}
	}
	for _, day := range []int{9, 10, 18, 19, 20, api.MaxDay} {
		out.On = append(out.On, inforce.On(day, "", l...), inforce.On(day, "tax", l...), inforce.On(day, "trade", l...))
		inforce.Interval(day, l...)
	}
	out.Breakpoints, out.Purposes, out.Pending = inforce.Breakpoints(l...), inforce.Purposes(l...), inforce.Pending(l...)
	return out
}

// TestArgumentsAndResults changes the results, up to their capacities, and looks at the arguments and at other results, then the arguments, and looks at the results.
func TestArgumentsAndResults(t *testing.T) {
	l := roomy(varied())
	got := resultsOf(l)
	want, other := copyOf(got), resultsOf(l)
	if len(want.On[4]) < 4 || len(want.Purposes) != 2 || len(want.Pending) < 4 || len(want.Breakpoints) < 4 {
		t.Error(want)
	}
	spoil(&got)
	if !reflect.DeepEqual(whole(l), whole(roomy(varied()))) {
		t.Fatal("an argument is modified")
	}
	if !same(other, want) || !same(resultsOf(l), want) {
		t.Fatal("results share memory")
	}
	got = resultsOf(l)
	spoil(&l)
	if !same(got, want) || !same(resultsOf(varied()), want) {
		t.Fatal("an argument, or a result, is kept")
	}
}

// TestPartsOfResults changes one item of a result, and looks at the others. Items that share memory among each other are given too.
func TestPartsOfResults(t *testing.T) {
	shared := varied()
	again := shared[len(shared)-2].Acts[0]
	again.Number = 9
	shared = append(shared, gazette(again), gazette(orders(12, 12, "correct act 4 item 2 as repeal section 1", "correct act 4 item 3 as repeal section 2")))
	by := shared[len(shared)-1].Acts[0].Items
	by[0].By[0] = again.Items[1]
	by[1].By[0] = again.Items[1]
	for _, l := range [][]api.Gazette{varied(), shared} {
		items := inforce.On(12, "tax", l...)
		want := copyOf(items)
		for i := range items {
			spoil(&items[i])
			items[i] = copyOf(want[i])
			if !same(items, want) {
				t.Fatal(i, "the items of a result share memory")
			}
		}
	}
}

// TestNothingIsKept calls the functions in between with other arguments.
func TestNothingIsKept(t *testing.T) {
	r := rand.New(rand.NewSource(33))
	want := copyOf(resultsOf(varied()))
	for range 20 {
		resultsOf(randomGazettes(r))
		if !same(resultsOf(varied()), want) {
			t.Fatal("the results depend on earlier calls")
		}
	}
}

// P1: all arguments

// TestOddArguments gives the functions extreme numbers and long strings.
func TestOddArguments(t *testing.T) {
	long := strings.Repeat("\x00\xff", 1<<12)
	extremes := []int{math.MinInt, math.MinInt + 1, -1, 0, 1, api.MaxDay, api.Forever, math.MaxInt}
	var l []api.Gazette
	for _, x := range extremes {
		a := api.Act{Number: x, Title: long, Day: -x, Start: api.Start{Kind: api.OnDay, Day: x, Event: long}}
		for i, y := range extremes {
			a.Items = append(a.Items,
				api.Item{Kind: i % 7, For: long[:1+i], Label: long, Where: x, Nth: y, Start: api.Start{Kind: i % 5, Day: y, Event: long}},
				api.Item{Kind: api.Commence + i%4, Act: y, Item: x, Day: y, Event: long, By: []api.Item{{}}},
				api.Item{Kind: y, Act: x, Item: y, Day: x, By: []api.Item{{Kind: x}}})
		}
		l = append(l, api.Gazette{Number: x, Day: x, Prior: long, Acts: []api.Act{a, a}})
	}
	checkAll(t, l)
	for _, x := range extremes {
		if got := inforce.On(x, long+long, l...); !same(got, modelOf(l).on(x, "")) {
			t.Error(x, places(got))
		}
		for _, y := range extremes {
			if len(inforce.Days(x, y, gazette(), api.Gazette{})) != 0 {
				t.Error(x, y)
			}
		}
	}
}

// TestDeepItems gives the functions items with deep trees.
func TestDeepItems(t *testing.T) {
	deep, nested := api.Unit{}, api.Item{}
	for range 1 << 12 {
		deep = api.Unit{Kind: api.Para, Label: "1", Kids: []api.Unit{deep}}
		nested = api.Item{Kind: api.Correct, By: []api.Item{nested}}
	}
	four := enacted(4, 5, "from day 10", "repeal section 3")
	four.Items = append(four.Items, api.Item{Unit: deep, By: []api.Item{nested}}, nested)
	l := gazettes(four)
	for day, want := range map[int]string{9: "", 10: "4.0 4.1"} {
		expectOn(t, day, "", want, l...)
	}
	if got := dateset.Format(inforce.Days(4, 1, l...)); got != "10+" || !slices.Equal(inforce.Breakpoints(l...), []int{0, 10}) || len(inforce.Pending(l...)) != 0 {
		t.Error(got)
	}
}

// TestManyItems gives the functions many acts, each with an amendment that another act expires and a third one revives.
func TestManyItems(t *testing.T) {
	const count = 12000
	days := func(i int) []api.Span {
		return []api.Span{{From: 10 + i, To: 20 + i}, {From: 50 + i, To: api.Forever}}
	}
	var l []api.Gazette
	for i := range count {
		four, order := enacted(4, 5, "by order", "repeal section 3"), orders(6, 6, "expire act 4 from day 20", "revive act 4 item 0 from day 50")
		four.Number, four.Start, four.Items[0].For = i+1, api.Start{Kind: api.OnDay, Day: 10 + i}, []string{"", "tax", "trade"}[i%3]
		order.Number, order.Items[0].Act, order.Items[0].Day, order.Items[1].Act, order.Items[1].Day = count+i+1, i+1, 20+i, i+1, 50+i
		l = append(l, gazette(order, four))
	}
	if got := inforce.On(count, "", l...); len(got) != (count-50)/3+1+3 { // those that have been revived, and three of the ten that have not expired
		t.Error(len(got))
	}
	for _, i := range []int{0, 1, count / 2, count - 1} {
		if got := inforce.Days(i+1, 0, l...); !slices.Equal(got, days(i)) {
			t.Error(i, got)
		}
	}
	if got := inforce.Breakpoints(l...); len(got) != count+40+1 || got[count+40] != count+49 {
		t.Error(len(got), got[len(got)-1])
	}
	if got := inforce.Purposes(l...); !slices.Equal(got, []string{"tax", "trade"}) || len(inforce.Pending(l...)) != 0 {
		t.Error(got)
	}
	if got := inforce.Interval(count, l...); got != count-9 {
		t.Error(got)
	}
}
