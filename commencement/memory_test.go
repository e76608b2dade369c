package commencement_test

import (
	"math"
	"math/rand"
	"reflect"
	"slices"
	"strings"
	"testing"

	"pandect/api"
	"pandect/commencement"
	"pandect/dateset"
)

// Arguments and results

// rebuilt returns a copy of the value that shares nothing with it and whose lists have spare capacity. It contains the elements that the function selects of each list.
func rebuilt(v reflect.Value, elements func(list reflect.Value) reflect.Value) reflect.Value {
	out := reflect.New(v.Type()).Elem()
	switch v.Kind() {
	case reflect.Struct:
		for i := range v.NumField() {
			out.Field(i).Set(rebuilt(v.Field(i), elements))
		}
	case reflect.Slice:
		l := elements(v)
		out.Set(reflect.MakeSlice(v.Type(), 0, l.Len()+3))
		for i := range l.Len() {
			out.Set(reflect.Append(out, rebuilt(l.Index(i), elements)))
		}
	default:
		out.Set(v)
	}
	return out
}

// copyOf returns a copy of the value.
func copyOf[T any](x T) T {
	return rebuilt(reflect.ValueOf(x), func(l reflect.Value) reflect.Value { return l }).Interface().(T)
}

// whole returns a copy of the value whose lists contain what their spare capacity contains too.
func whole[T any](x T) T {
	return rebuilt(reflect.ValueOf(x), func(l reflect.Value) reflect.Value { return l.Slice(0, l.Cap()) }).Interface().(T)
}

// full returns an enacted item with the given instruction's kind, all of whose lists have elements.
func full(d api.EnactedItem) api.EnactedItem {
	words := []api.Word{{Text: "a", By: api.Mark{Act: 1}}, {Text: "b"}}
	d.It.At, d.It.To = []api.Step{{Kind: 1, Label: "1"}, {Kind: 2, Label: "3"}}, []api.Step{{Kind: 1, Label: "2"}}
	d.It.Unit = api.Unit{Kind: api.Section, Label: "9", Head: words, Words: words, Kids: []api.Unit{{Kind: api.Para, Words: words}}}
	d.It.Old, d.It.New = []string{"o", "p"}, []string{"q", "r"}
	d.It.By = []api.Item{{Kind: api.Repeal, Old: []string{"s"}}, {Kind: api.Heading}}
	return d
}

// spoilSpans overwrites the spans, up to the capacity.
func spoilSpans(l []api.Span) {
	l = l[:cap(l)]
	for i := range l {
		l[i] = api.Span{From: -9, To: -8}
	}
}

// spoilOrders overwrites the orders, up to the capacity.
func spoilOrders(l []api.EnactedItem) {
	l = l[:cap(l)]
	for i := range l {
		for k := range l[i].It.By {
			l[i].It.By[k] = api.Item{Kind: -9}
		}
		l[i] = api.EnactedItem{Act: -9, It: api.Item{Kind: api.Expire, Act: 4, Item: -1, Day: -9}}
	}
}

// TestArgumentsAndResults changes the results, up to their capacities, and looks at the arguments and at other results, then the arguments, and looks at the results.
func TestArgumentsAndResults(t *testing.T) {
	for _, text := range []string{"", "happen peace 8", "expire 4 2 20; correct 4 2 3; happen peace 8; revive 4 -1 30", "commence 4 2 5; expire 4 2 6; revive 4 2 7; expire 4 -1 8", "expire 4 2 0"} {
		for _, s := range []api.Start{onDay(10), onEvent("peace"), byOrder, {}} {
			var l []api.EnactedItem
			for _, d := range orders(text) {
				l = append(l, full(d))
			}
			l = copyOf(l)
			d := copyOf(full(instruction(s)))
			keptList, keptItem := copyOf(l), copyOf(d)
			days, again := commencement.InForce(onDay(12), d, l...), commencement.InForce(onDay(12), d, l...)
			first, second := commencement.Initial(s, l...), commencement.Initial(s, l...)
			wantDays, wantFirst := slices.Clone(days), slices.Clone(first)
			commencement.EventDay("peace", l...)
			for _, o := range l {
				commencement.Refers(o.It, 4, 2)
			}
			spoilSpans(days)
			spoilSpans(first)
			if !reflect.DeepEqual(whole(l), whole(keptList)) || !reflect.DeepEqual(whole(d), whole(keptItem)) {
				t.Fatal(text, s, "an argument is modified")
			}
			if !slices.Equal(again, wantDays) || !slices.Equal(second, wantFirst) {
				t.Fatal(text, s, "results share memory")
			}
			if !slices.Equal(commencement.InForce(onDay(12), d, l...), wantDays) || !slices.Equal(commencement.Initial(s, l...), wantFirst) {
				t.Fatal(text, s, "a result is kept")
			}
			again, second = commencement.InForce(onDay(12), d, l...), commencement.Initial(s, l...)
			spoilOrders(l)
			if !slices.Equal(again, wantDays) || !slices.Equal(second, wantFirst) {
				t.Fatal(text, s, "an argument is kept")
			}
		}
	}
}

// TestNothingIsKept calls the functions in between with other arguments.
func TestNothingIsKept(t *testing.T) {
	r := rand.New(rand.NewSource(4))
	for range 2000 {
		a, d, l := randomStart(r), instruction(randomStart(r)), randomOrders(r, 6)
		want := slices.Clone(commencement.InForce(a, d, l...))
		for range 3 {
			commencement.InForce(randomStart(r), instruction(randomStart(r)), randomOrders(r, 6)...)
		}
		if got := commencement.InForce(a, d, l...); !slices.Equal(got, want) {
			t.Fatal(about(l), got, want)
		}
	}
}

// P1: all arguments

// TestOddArguments gives the functions extreme numbers, long strings, and items with nested lists.
func TestOddArguments(t *testing.T) {
	long := strings.Repeat("peace\x00\xff", 1<<14)
	extremes := []int{math.MinInt, math.MinInt + 1, -1, 0, 2, 4, api.MaxDay, api.Forever, math.MaxInt - 1, math.MaxInt}
	var l []api.EnactedItem
	for _, x := range extremes {
		for kind := -1; kind <= 13; kind++ {
			l = append(l, full(api.EnactedItem{Act: x, Item: x, Day: x, It: api.Item{Kind: kind, Act: x, Item: x, Day: x, Event: long, Nth: x, Where: x}}), api.EnactedItem{It: api.Item{Kind: kind, Act: 4, Item: -1, Day: x}})
		}
		l = append(l, api.EnactedItem{It: api.Item{Kind: x, Act: 4, Item: 2, Day: 9}}, api.EnactedItem{})
	}
	for _, x := range extremes {
		for _, y := range extremes {
			d := api.EnactedItem{Act: x, Item: y, Day: x, It: api.Item{Kind: api.Repeal, Start: api.Start{Kind: api.OnEvent, Day: y, Event: long}}}
			for _, a := range []api.Start{{}, {Kind: x, Day: y}, {Kind: api.OnDay, Day: y}, {Kind: api.OnEvent, Event: long}} {
				for _, s := range []api.Start{{}, {Kind: y, Day: x}, {Kind: api.OnEvent, Event: long}} {
					d.It.Start = s
					checkInForce(t, a, d, l...)
					checkInForce(t, a, d)
					checkInitial(t, s, l...)
				}
			}
		}
	}
	if day, ok := commencement.EventDay(long, l...); day != math.MinInt || !ok {
		t.Error(day, ok)
	}
	if day, ok := commencement.EventDay(long[:len(long)-1], l...); day != 0 || ok {
		t.Error(day, ok)
	}
}

// TestManyItems gives InForce many items that do not refer to the instruction.
func TestManyItems(t *testing.T) {
	l := slices.Repeat(orders("commence 4 1 3; expire 5 2 12; happen union 4; correct 4 2 8; revive 3 -1 2"), 100000)
	l = append(l, orders("happen peace 10; expire 4 2 20")...)
	if got := dateset.Format(commencement.InForce(onEvent("peace"), instruction(api.Start{}), l...)); got != "10-19" {
		t.Error(got)
	}
}
