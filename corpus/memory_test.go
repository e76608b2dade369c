package corpus_test

import (
	"math"
	"reflect"
	"slices"
	"strconv"
	"strings"
	"testing"

	"pandect/api"
	"pandect/corpus"
)

// Arguments and results

// roomy returns a copy of the value that shares nothing with it and whose lists have spare capacity.
func roomy[T any](x T) T { return rebuilt(reflect.ValueOf(&x).Elem(), 3, all).Interface().(T) }

// whole returns a copy of the value whose lists contain what their spare capacity contains too.
func whole[T any](x T) T {
	return rebuilt(reflect.ValueOf(&x).Elem(), 0, func(l reflect.Value) reflect.Value { return l.Slice(0, l.Cap()) }).Interface().(T)
}

// spoil overwrites everything in the lists of the value, up to their capacities: numbers by -9, texts by "spoiled".
func spoil[T any](x *T) {
	var overwrite func(v reflect.Value)
	overwrite = func(v reflect.Value) {
		switch v.Kind() {
		case reflect.Struct:
			for i := range v.NumField() {
				overwrite(v.Field(i))
			}
		case reflect.Slice:
			l := v.Slice(0, v.Cap())
			for i := range l.Len() {
				overwrite(l.Index(i))
			}
		case reflect.Int:
			v.SetInt(-9)
		case reflect.String:
			v.SetString("spoiled")
		}
	}
	overwrite(reflect.ValueOf(x).Elem())
}

// fullItem returns an instruction of the kind all of whose lists have elements.
func fullItem(kind int) api.Item {
	word := func(s string) []api.Word { return []api.Word{{Text: s, By: api.Mark{Act: 3, Item: 1}}, {Text: "w"}} }
	it := api.Item{Kind: kind, At: []api.Step{{Kind: 1, Label: "1"}, {Kind: 2, Label: "3"}}, To: []api.Step{{Kind: 1, Label: "2"}}, Old: []string{"o", "p"}, New: []string{"q"}, For: "tax", Act: 1, Item: 1}
	it.Unit = api.Unit{Kind: api.Section, Label: "9", Head: word("a"), Words: word("b"), Kids: []api.Unit{{Kind: api.Para, Head: word("c"), Words: word("d"), Kids: []api.Unit{{Words: word("e")}}}}}
	it.By = []api.Item{{Kind: api.Heading, Old: []string{"s"}, At: []api.Step{{Kind: 3}}, Unit: api.Unit{Words: word("f")}, By: []api.Item{{New: []string{"t"}}}}, {Kind: api.Correct, By: []api.Item{{Old: []string{"u"}}}}}
	return it
}

// varied returns gazettes with items of all kinds, whose lists have elements, and with corrections and duplicates.
func varied() []api.Gazette {
	one, two := enacted(1, 5), enacted(2, 4)
	for kind := -1; kind <= 12; kind++ {
		one.Items, two.Items = append(one.Items, fullItem(kind)), append(two.Items, fullItem(12-kind))
	}
	return []api.Gazette{gazette(3, one, enacted(3, 5, instructions()...)), gazette(4), gazette(5, two, one, enacted(4, 6, "correct act 3 item 1 as "+instructions()[0], "correct act 1 item 3 as "+instructions()[6])), gazette(6, enacted(4, 6))}
}

// results calls all functions.
func results(l []api.Gazette) (acts []api.Act, items []api.EnactedItem, duplicates []int) {
	for _, d := range corpus.EnactedItems(l...) {
		found, _ := corpus.Find(d.Act, d.Item, l...)
		items = append(items, found)
		corpus.KnownSince(d.Act, d.Item, l...)
	}
	corpus.PublishedBy(4, l...)
	return corpus.Acts(l...), append(items, corpus.EnactedItems(l...)...), corpus.Duplicates(l...)
}

// TestArgumentsAndResults changes the results, up to their capacities, and looks at the arguments and at other results, then the arguments, and looks at the results.
func TestArgumentsAndResults(t *testing.T) {
	l := roomy(varied())
	acts, items, duplicates := results(l)
	wantActs, wantItems, wantDuplicates := copyOf(acts), copyOf(items), slices.Clone(duplicates)
	otherActs, otherItems, otherDuplicates := results(l)
	spoil(&acts)
	spoil(&items)
	spoil(&duplicates)
	if !reflect.DeepEqual(whole(l), whole(roomy(varied()))) {
		t.Fatal("an argument is modified")
	}
	if !same(otherActs, wantActs) || !same(otherItems, wantItems) || !slices.Equal(otherDuplicates, wantDuplicates) || len(wantDuplicates) != 2 {
		t.Fatal("results share memory")
	}
	acts, items, duplicates = results(l)
	spoil(&l)
	if !same(acts, wantActs) || !same(items, wantItems) || !slices.Equal(duplicates, wantDuplicates) {
		t.Fatal("an argument, or a result, is kept")
	}
	checkAll(t, varied())
}

// TestPartsOfResults changes one act, or one item, of a result, and looks at the others. Arguments that share memory among each other are given too.
func TestPartsOfResults(t *testing.T) {
	shared := varied()
	again := shared[0].Acts[0]
	again.Number = 9
	shared = append(shared, gazette(7, again))
	shared[2].Acts[2].Items[0].By = shared[2].Acts[2].Items[1].By
	for _, l := range [][]api.Gazette{varied(), shared} {
		acts, items, _ := results(l)
		wantActs, wantItems := copyOf(acts), copyOf(items)
		for i := range acts {
			spoil(&acts[i])
			acts[i] = copyOf(wantActs[i])
			if !same(acts, wantActs) {
				t.Fatal(i, "the acts of a result share memory")
			}
			for k := range acts[i].Items {
				acts[i] = corpus.Acts(l...)[i]
				spoil(&acts[i].Items[k])
				acts[i].Items[k] = copyOf(wantActs[i].Items[k])
				if !same(acts[i], wantActs[i]) {
					t.Fatal(i, k, "the items of an act share memory")
				}
			}
		}
		for i := range items {
			spoil(&items[i])
			items[i] = copyOf(wantItems[i])
			if !same(items, wantItems) {
				t.Fatal(i, "the items of a result share memory")
			}
		}
	}
}

// TestCompareKeepsNothing gives Compare items with lists.
func TestCompareKeepsNothing(t *testing.T) {
	a, b := api.EnactedItem{Act: 1, It: fullItem(0)}, api.EnactedItem{Act: 2, It: fullItem(3)}
	x, y := roomy(a), roomy(b)
	if corpus.Compare(x, y) != -1 || !reflect.DeepEqual(whole(x), whole(roomy(a))) || !reflect.DeepEqual(whole(y), whole(roomy(b))) {
		t.Error(x, y)
	}
}

// P1: all arguments

// TestOddArguments gives the functions extreme numbers, long strings, and deep trees.
func TestOddArguments(t *testing.T) {
	deep, nested := api.Unit{}, api.Item{}
	for range 1 << 12 {
		deep = api.Unit{Kind: api.Para, Label: "1", Kids: []api.Unit{deep}}
		nested = api.Item{Kind: api.Correct, By: []api.Item{nested}}
	}
	long := strings.Repeat("\x00\xff", 1<<16)
	odd := api.Item{Kind: api.Insert, Unit: deep, Label: long, For: long, Event: long, Where: math.MinInt, Nth: math.MaxInt, Act: math.MinInt, Item: math.MaxInt, Day: math.MinInt, Start: api.Start{Kind: math.MaxInt, Day: math.MinInt, Event: long}, By: []api.Item{nested}}
	var l []api.Gazette
	extremes := []int{math.MinInt, -1, 0, 1, api.MaxAct, math.MaxInt}
	for _, x := range extremes {
		g := api.Gazette{Number: x, Day: x, Prior: long}
		for _, y := range extremes {
			a := api.Act{Number: y ^ x, Title: long, Day: -y, Start: api.Start{Kind: x, Day: y, Event: long}, Items: []api.Item{odd, nested, {}, {Kind: x, Act: y, Item: x}}}
			a.Items = append(a.Items, api.Item{Kind: api.Correct, Act: y ^ x, Item: 2, By: []api.Item{odd}}, api.Item{Kind: api.Correct, Act: y, Item: x, By: []api.Item{{}}})
			g.Acts = append(g.Acts, a)
		}
		l = append(l, g)
	}
	want := modelItems(l)
	if got := corpus.EnactedItems(l...); texts(got) != texts(want) || len(got) != len(want) {
		t.Error(len(got), len(want))
	}
	for _, x := range extremes {
		for _, y := range extremes {
			d, found := modelFind(x, y, l)
			if got, ok := corpus.Find(x, y, l...); ok != found || corpus.Compare(got, d) != 0 || got.It.Kind != d.It.Kind || len(got.It.By) != len(d.It.By) {
				t.Error(x, y, ok)
			}
			if got := corpus.KnownSince(x, y, l...); (got > 0) != found || got > len(l) {
				t.Error(x, y, got)
			}
		}
		if got := corpus.PublishedBy(x, l...); got != modelPublished(x, l) {
			t.Error(x, got)
		}
	}
	if got := corpus.Duplicates(l...); !slices.Equal(got, modelDuplicates(l)) || len(got) == 0 {
		t.Error(got)
	}
	if got := corpus.Acts(l...); len(got) != len(actsThatCount(l)) || len(got[0].Items) != 6 {
		t.Error(len(got))
	}
}

// TestManyGazettes gives the functions many gazettes, each with a correction of one item and a duplicate. Their acts are published in legal order, or in the opposite order.
func TestManyGazettes(t *testing.T) {
	const count = 4000
	one := enacted(1, 0, "repeal section 3")
	for step, last := range map[int]int{1: count, -1: 1} {
		l := gazettes(one)
		for i := 2; i <= count+1; i++ {
			l = append(l, gazette(i, enacted(i, step*i, "correct act 1 item 0 as repeal section "+strconv.Itoa(i)), one))
		}
		if d, ok := corpus.Find(1, 0, l...); !ok || !same(d.It, item("repeal section "+strconv.Itoa(last+1))) {
			t.Error(step, d, ok)
		}
		if got := corpus.KnownSince(1, 0, l...); got != last+1 {
			t.Error(step, got)
		}
		items, acts := corpus.EnactedItems(l...), corpus.Acts(l...)
		isSorted := slices.IsSortedFunc(items, func(a, b api.EnactedItem) int { return step * (a.Act - b.Act) })
		if !isSorted || len(items) != count+1 || len(acts) != count+1 || acts[len(acts)-1].Number != items[len(items)-1].Act {
			t.Error(step, len(items), len(acts))
		}
		if got := corpus.Duplicates(l...); !slices.Equal(got, []int{1}) || corpus.PublishedBy(count/2, l...) != count/2 {
			t.Error(step, got)
		}
	}
}
