package commencement_test

import (
	"fmt"
	"math"
	"math/rand"
	"slices"
	"strings"
	"testing"

	"pandect/api"
	"pandect/commencement"
	"pandect/dateset"
)

// The model: it follows the definitions, day by day.

// effectiveStart returns the effective start of an instruction.
func effectiveStart(a, it api.Start) api.Start {
	return map[bool]api.Start{true: a, false: it}[it.Kind == 0]
}

// eventDay returns the day of the event, if it has one.
func eventDay(name string, l []api.EnactedItem) (day int, ok bool) {
	for i := len(l) - 1; i >= 0; i-- { // so that the first one is the last to be seen
		if l[i].It.Kind == 10 && l[i].It.Event == name {
			day, ok = l[i].It.Day, true
		}
	}
	return day, ok
}

// startsBy reports whether the day is in the initial set of the start.
func startsBy(day int, s api.Start, l []api.EnactedItem) bool {
	eve, ok := eventDay(s.Event, l)
	return s.Kind == 1 && day >= s.Day || s.Kind == 3 && ok && day >= eve
}

// refers reports whether the order refers to the instruction.
func refers(it api.Item, act, item int) bool {
	switch it.Kind {
	case 7, 8, 9:
		return it.Act == act && slices.Contains([]int{item, -1}, it.Item)
	case 11:
		return api.ItemRef{Act: it.Act, Item: it.Item} == api.ItemRef{Act: act, Item: item}
	}
	return false
}

// isInForce reports whether the instruction of d is in force on the day.
func isInForce(day int, a api.Start, d api.EnactedItem, l []api.EnactedItem) bool {
	if d.It.Kind < 0 || d.It.Kind > 6 {
		return false
	}
	in := startsBy(day, effectiveStart(a, d.It.Start), l)
	for _, o := range l {
		if day >= o.It.Day && refers(o.It, d.Act, d.Item) && o.It.Kind != 11 {
			in = o.It.Kind != 8
		}
	}
	return in
}

// daysOf returns the canonical list of the days from 0 to MaxDay that are in the set. Membership changes on the given days at most.
func daysOf(in func(day int) bool, changes ...int) []api.Span {
	cuts := []int{0, api.Forever}
	for _, day := range changes {
		if day > 0 && day < api.Forever {
			cuts = append(cuts, day)
		}
	}
	slices.Sort(cuts)
	var out []api.Span
	for i := range len(cuts) - 1 {
		s := api.Span{From: cuts[i], To: cuts[i+1]}
		switch n := len(out); {
		case s.From == s.To || !in(s.From):
		case n > 0 && out[n-1].To == s.From:
			out[n-1].To = s.To
		default:
			out = append(out, s)
		}
	}
	return out
}

// daysIn returns the days of all orders.
func daysIn(l []api.EnactedItem) []int {
	var out []int
	for _, d := range l {
		out = append(out, d.It.Day)
	}
	return out
}

// wantDays returns the days on which the instruction of d is in force.
func wantDays(a api.Start, d api.EnactedItem, l []api.EnactedItem) []api.Span {
	return daysOf(func(day int) bool { return isInForce(day, a, d, l) }, append(daysIn(l), a.Day, d.It.Start.Day)...)
}

// checkInForce compares InForce with the model, and returns the days.
func checkInForce(t *testing.T, a api.Start, d api.EnactedItem, l ...api.EnactedItem) []api.Span {
	t.Helper()
	got, want := commencement.InForce(a, d, l...), wantDays(a, d, l)
	if !slices.Equal(got, want) || !dateset.Valid(got...) {
		t.Fatalf("InForce(%s, %d %d: kind %d %s, %s): %v, want %v", startText(a), d.Act, d.Item, d.It.Kind, startText(d.It.Start), about(l), got, want)
	}
	return got
}

// checkInitial compares Initial with the model, and returns the days.
func checkInitial(t *testing.T, s api.Start, l ...api.EnactedItem) []api.Span {
	t.Helper()
	got := commencement.Initial(s, l...)
	want := daysOf(func(day int) bool { return startsBy(day, s, l) }, append(daysIn(l), s.Day)...)
	if !slices.Equal(got, want) {
		t.Fatalf("Initial(%s, %s): %v, want %v", startText(s), about(l), got, want)
	}
	return got
}

// Samples.

// kindOf contains the kinds of the words of an order's text.
var kindOf = map[string]int{"commence": api.Commence, "expire": api.Expire, "revive": api.Revive, "happen": api.DeclareEvent, "correct": api.Correct}

// order returns the order with a text such as "commence 4 2 10" (the act, the item and the day) or "happen peace 10".
func order(text string) api.EnactedItem {
	l := strings.Fields(text)
	kind, ok := kindOf[l[0]]
	it := api.Item{Kind: kind}
	fields := []any{&it.Act, &it.Item, &it.Day}
	if kind == api.DeclareEvent {
		fields = []any{&it.Event, &it.Day}
	}
	n, err := fmt.Sscan(strings.Join(l[1:], " "), fields...)
	if !ok || err != nil || n != len(l)-1 {
		panic(text)
	}
	if kind == api.Correct {
		it.By = []api.Item{{Kind: api.Repeal, Start: onDay(it.Day)}}
	}
	return api.EnactedItem{Act: 9, Day: 1, It: it}
}

// orders returns the orders with the texts that are separated by semicolons.
func orders(text string) []api.EnactedItem {
	var out []api.EnactedItem
	for i, s := range strings.Split(text, ";") {
		if strings.TrimSpace(s) != "" {
			d := order(s)
			d.Item = i
			out = append(out, d)
		}
	}
	return out
}

// about describes orders.
func about(l []api.EnactedItem) string {
	var out []string
	for _, d := range l {
		out = append(out, fmt.Sprintf("kind %d act %d item %d day %d event %.20q", d.It.Kind, d.It.Act, d.It.Item, d.It.Day, d.It.Event))
	}
	return fmt.Sprintf("%.2000s", strings.Join(out, "; "))
}

// startText describes a start.
func startText(s api.Start) string { return fmt.Sprintf("start %d %d %.20q", s.Kind, s.Day, s.Event) }

func onDay(day int) api.Start { return api.Start{Kind: api.OnDay, Day: day} }

func onEvent(name string) api.Start { return api.Start{Kind: api.OnEvent, Event: name} }

// byOrder is the start of what is in force by orders only.
var byOrder = api.Start{Kind: api.OnOrder}

// instruction returns the item 2 of act 4, which all samples are about.
func instruction(s api.Start) api.EnactedItem {
	return api.EnactedItem{Act: 4, Item: 2, Day: 3, It: api.Item{Kind: api.Repeal, At: []api.Step{{Kind: api.Section, Label: "3"}}, Start: s}}
}

// expect expects the days on which the instruction with the start is in force under the orders. It returns them.
func expect(t *testing.T, s api.Start, text, days string) []api.Span {
	t.Helper()
	got := checkInForce(t, s, instruction(api.Start{}), orders(text)...)
	if dateset.Format(got) != days {
		t.Errorf("%v, %s: %s, want %s", s, text, dateset.Format(got), days)
	}
	if own := commencement.InForce(onDay(5), instruction(s), orders(text)...); s.Kind != api.AsAct && !slices.Equal(own, got) {
		t.Errorf("%v, %s: %v as its own start", s, text, own)
	}
	return got
}

// starts returns starts of every kind, and of kinds below and above them.
func starts() []api.Start {
	var out []api.Start
	for kind := -3; kind <= 7; kind++ {
		for _, day := range []int{math.MinInt, -1, 0, 10, api.MaxDay, api.Forever, math.MaxInt} {
			for _, event := range []string{"", "peace", "union", strings.Repeat("x", 1000)} {
				out = append(out, api.Start{Kind: kind, Day: day, Event: event})
			}
		}
	}
	return append(out, api.Start{Kind: math.MinInt, Day: 5}, api.Start{Kind: math.MaxInt, Day: 5})
}

// P27.1

func TestEffectiveStart(t *testing.T) {
	for _, c := range []struct{ a, it, want api.Start }{
		{onDay(5), api.Start{}, onDay(5)},
		{byOrder, api.Start{}, byOrder},
		{onEvent("peace"), api.Start{}, onEvent("peace")},
		{api.Start{}, api.Start{}, api.Start{}},
		{api.Start{Day: 5, Event: "peace"}, api.Start{Day: 6, Event: "union"}, api.Start{Day: 5, Event: "peace"}},
		{onDay(5), onDay(6), onDay(6)},
		{onDay(5), byOrder, byOrder},
		{byOrder, onDay(0), onDay(0)},
		{onDay(5), onEvent("peace"), onEvent("peace")},
		{onEvent("union"), onEvent("peace"), onEvent("peace")},
		{api.Start{}, onDay(6), onDay(6)},
		{onDay(5), api.Start{Kind: -1, Day: 6, Event: "union"}, api.Start{Kind: -1, Day: 6, Event: "union"}},
		{onDay(5), api.Start{Kind: 4}, api.Start{Kind: 4}},
		{api.Start{Kind: 4}, api.Start{}, api.Start{Kind: 4}},
	} {
		if got := commencement.EffectiveStart(c.a, c.it); got != c.want {
			t.Errorf("EffectiveStart(%v, %v): %v, want %v", c.a, c.it, got, c.want)
		}
	}
	for _, a := range starts() {
		for _, it := range starts() {
			if got := commencement.EffectiveStart(a, it); got != effectiveStart(a, it) {
				t.Errorf("EffectiveStart(%s, %s): %s", startText(a), startText(it), startText(got))
			}
		}
	}
}

func TestEventDay(t *testing.T) {
	for _, c := range []struct {
		name, text string
		day        int
		ok         bool
	}{
		{"peace", "", 0, false},
		{"", "", 0, false},
		{"peace", "happen union 5", 0, false},
		{"peace", "happen peace 5", 5, true},
		{"peace", "happen peace 0", 0, true},
		{"peace", "happen union 4; commence 4 2 6; happen peace 5; happen union 3", 5, true},
		{"peace", "happen peace 9; happen peace 5", 9, true},
		{"peace", "happen peace 5; happen peace 9", 5, true},
		{"peace", "happen union 7; happen peace 8; happen union 1; happen peace 5; happen peace 9", 8, true},
		{"union", "happen union 7; happen peace 8; happen union 1; happen peace 5; happen peace 9", 7, true},
		{"", "happen peace 5", 0, false},
		{"peace", "happen Peace 1; happen peac 2; happen peaces 3", 0, false},
		{"peace", "happen peace -5", -5, true},
		{"peace", "happen peace 1048577; happen peace 5", api.MaxDay + 1, true},
		{"peace", "happen peace -9223372036854775808", math.MinInt, true},
		{"peace", "happen peace 9223372036854775807", math.MaxInt, true},
	} {
		if day, ok := commencement.EventDay(c.name, orders(c.text)...); day != c.day || ok != c.ok {
			t.Errorf("EventDay(%q, %s): %d %v", c.name, c.text, day, ok)
		}
	}
	nameless := order("happen x 7")
	nameless.It.Event = ""
	l := append(orders("happen peace 3"), nameless)
	if day, ok := commencement.EventDay("", l...); day != 7 || !ok {
		t.Error(day, ok)
	}
	if day, ok := commencement.EventDay("peace", nameless); day != 0 || ok {
		t.Error(day, ok)
	}
}

// TestEventDayKinds expects that orders of other kinds declare nothing, whatever they contain.
func TestEventDayKinds(t *testing.T) {
	for kind := -3; kind <= 14; kind++ {
		d := api.EnactedItem{Act: 1, Day: 4, It: api.Item{Kind: kind, Day: 8, Event: "peace", For: "peace", Start: api.Start{Kind: api.OnEvent, Day: 6, Event: "peace"}}}
		d.It.By = []api.Item{order("happen peace 2").It}
		day, ok := commencement.EventDay("peace", d, order("happen peace 9"))
		if want := map[bool]int{true: 8, false: 9}[kind == api.DeclareEvent]; day != want || !ok {
			t.Error(kind, day, ok)
		}
		if day, ok := commencement.EventDay("peace", d); ok != (kind == api.DeclareEvent) || !ok && day != 0 {
			t.Error(kind, day, ok)
		}
	}
}

func TestInitial(t *testing.T) {
	const text = "happen union 20; happen peace 7; happen union 3; commence 4 2 1; expire 4 2 2"
	for _, c := range []struct {
		s    api.Start
		want string
	}{
		{onDay(10), "10+"},
		{onDay(0), "0+"},
		{onDay(-1), "0+"},
		{onDay(-100), "0+"},
		{onDay(math.MinInt), "0+"},
		{onDay(api.MaxDay - 1), "1048575+"},
		{onDay(api.MaxDay), "1048576"},
		{onDay(api.MaxDay + 1), "never"},
		{onDay(math.MaxInt), "never"},
		{api.Start{Kind: api.OnDay, Day: 10, Event: "peace"}, "10+"},
		{onEvent("peace"), "7+"},
		{onEvent("union"), "20+"},
		{api.Start{Kind: api.OnEvent, Event: "peace", Day: 10}, "7+"},
		{onEvent("war"), "never"},
		{api.Start{Kind: api.OnEvent, Event: "war", Day: 10}, "never"},
		{onEvent(""), "never"},
		{byOrder, "never"},
		{api.Start{Kind: api.OnOrder, Day: 10, Event: "peace"}, "never"},
		{api.Start{}, "never"},
		{api.Start{Kind: api.AsAct, Day: 10, Event: "peace"}, "never"},
		{api.Start{Kind: -1, Day: 10, Event: "peace"}, "never"},
		{api.Start{Kind: 4, Day: 10, Event: "peace"}, "never"},
	} {
		if got := dateset.Format(checkInitial(t, c.s, orders(text)...)); got != c.want {
			t.Errorf("Initial(%v): %s, want %s", c.s, got, c.want)
		}
	}
	for _, c := range []struct{ text, want string }{
		{"happen peace -1", "0+"}, {"happen peace 0", "0+"}, {"happen peace 1", "1+"}, {"happen peace 1048576", "1048576"}, {"happen peace 1048577", "never"}, {"happen peace 1048577; happen peace 5", "never"}, {"", "never"},
	} {
		if got := dateset.Format(checkInitial(t, onEvent("peace"), orders(c.text)...)); got != c.want {
			t.Errorf("Initial(%s): %s, want %s", c.text, got, c.want)
		}
	}
	for _, s := range starts() {
		checkInitial(t, s)
		checkInitial(t, s, orders(text)...)
		checkInitial(t, s, orders("happen peace 30; happen x 5")...)
	}
}

func TestRefers(t *testing.T) {
	for _, c := range []struct {
		text      string
		act, item int
		want      bool
	}{
		{"commence 4 2 10", 4, 2, true}, {"expire 4 2 10", 4, 2, true}, {"revive 4 2 10", 4, 2, true}, {"correct 4 2 10", 4, 2, true},
		{"commence 4 -1 10", 4, 2, true}, {"expire 4 -1 10", 4, 2, true}, {"revive 4 -1 10", 4, 2, true}, {"correct 4 -1 10", 4, 2, false},
		{"commence 4 -1 10", 4, -1, true}, {"correct 4 -1 10", 4, -1, true}, {"commence 4 2 10", 4, -1, false}, {"correct 4 2 10", 4, -1, false},
		{"commence 4 -2 10", 4, 2, false}, {"expire 4 -2 10", 4, -2, true}, {"revive 4 0 10", 4, 2, false}, {"revive 4 0 10", 4, 0, true},
		{"commence 4 3 10", 4, 2, false}, {"expire 4 1 10", 4, 2, false}, {"revive 4 3 10", 4, 2, false}, {"correct 4 3 10", 4, 2, false},
		{"commence 5 2 10", 4, 2, false}, {"expire 3 2 10", 4, 2, false}, {"revive -4 2 10", 4, 2, false}, {"correct 5 2 10", 4, 2, false},
		{"commence 5 -1 10", 4, 2, false}, {"expire 5 -1 10", 4, 2, false}, {"revive 5 -1 10", 4, 2, false}, {"correct 2 4 10", 4, 2, false},
		{"commence -4 -1 10", -4, 2, true}, {"correct -4 -3 10", -4, -3, true},
	} {
		if got := commencement.Refers(order(c.text).It, c.act, c.item); got != c.want {
			t.Errorf("Refers(%s, %d, %d): %v", c.text, c.act, c.item, got)
		}
	}
	if commencement.Refers(order("happen peace 10").It, 0, 0) || commencement.Refers(api.Item{}, 0, 0) {
		t.Error("not an order that refers to anything")
	}
	numbers := []int{math.MinInt, -2, -1, 0, 1, 2, 31, math.MaxInt}
	for kind := -3; kind <= 14; kind++ {
		for _, x := range numbers {
			for _, y := range numbers {
				for _, act := range numbers {
					for _, item := range numbers {
						it := api.Item{Kind: kind, Act: x, Item: y, Day: 5}
						if got := commencement.Refers(it, act, item); got != refers(it, act, item) {
							t.Fatalf("Refers(%v, %d, %d): %v", it, act, item, got)
						}
					}
				}
			}
		}
	}
}

// P27.2

func TestExample(t *testing.T) {
	expect(t, onDay(10), "expire 4 2 20; revive 4 2 30", "10-19,30+")
}

func TestWithoutOrders(t *testing.T) {
	expect(t, onDay(10), "", "10+")
	expect(t, onDay(0), "", "0+")
	expect(t, onDay(-7), "", "0+")
	expect(t, onDay(api.MaxDay), "", "1048576")
	expect(t, onDay(api.Forever), "", "never")
	expect(t, byOrder, "", "never")
	expect(t, onEvent("peace"), "", "never")
	expect(t, api.Start{}, "", "never")
	expect(t, api.Start{Kind: -1, Day: 10}, "", "never")
	expect(t, api.Start{Kind: 4, Day: 10}, "", "never")
}

func TestOneOrder(t *testing.T) {
	for _, c := range []struct{ text, onTen, byOrder string }{
		{"commence 4 2 15", "10+", "15+"}, {"revive 4 2 15", "10+", "15+"}, {"expire 4 2 15", "10-14", "never"},
		{"commence 4 2 5", "5+", "5+"}, {"revive 4 2 5", "5+", "5+"}, {"expire 4 2 5", "never", "never"},
		{"commence 4 2 10", "10+", "10+"}, {"revive 4 2 10", "10+", "10+"}, {"expire 4 2 10", "never", "never"}, {"expire 4 2 11", "10", "never"},
		{"commence 4 2 0", "0+", "0+"}, {"revive 4 2 0", "0+", "0+"}, {"expire 4 2 0", "never", "never"}, {"expire 4 2 1", "never", "never"},
		{"commence 4 2 -3", "0+", "0+"}, {"revive 4 2 -3", "0+", "0+"}, {"expire 4 2 -3", "never", "never"},
		{"commence 4 2 1048576", "10+", "1048576"}, {"revive 4 2 1048576", "10+", "1048576"}, {"expire 4 2 1048576", "10-1048575", "never"},
		{"commence 4 2 1048577", "10+", "never"}, {"revive 4 2 1048577", "10+", "never"}, {"expire 4 2 1048577", "10+", "never"},
		{"commence 4 2 9223372036854775807", "10+", "never"}, {"revive 4 2 9223372036854775807", "10+", "never"}, {"expire 4 2 9223372036854775807", "10+", "never"},
		{"commence 4 2 -9223372036854775808", "0+", "0+"}, {"revive 4 2 -9223372036854775808", "0+", "0+"}, {"expire 4 2 -9223372036854775808", "never", "never"},
		{"correct 4 2 15", "10+", "never"}, {"correct 4 2 5", "10+", "never"}, {"correct 4 -1 15", "10+", "never"}, {"happen peace 15", "10+", "never"},
	} {
		expect(t, onDay(10), c.text, c.onTen)
		expect(t, byOrder, c.text, c.byOrder)
		for _, number := range []string{" 5 2 ", " 3 -1 ", " -4 2 ", " 4 1 ", " 4 3 ", " 4 -2 ", " 2 4 "} { // another act, or another item
			other := strings.Replace(strings.Replace(c.text, " 4 2 ", number, 1), " 4 -1 ", number, 1)
			expect(t, onDay(10), other, "10+")
			expect(t, byOrder, other, "never")
		}
		whole := strings.Replace(c.text, " 4 2 ", " 4 -1 ", 1)
		expect(t, onDay(10), whole, c.onTen)
		expect(t, byOrder, whole, c.byOrder)
	}
}

func TestSeveralOrders(t *testing.T) {
	for _, c := range []struct{ text, onTen, byOrder string }{
		{"expire 4 2 20; revive 4 2 20", "10+", "20+"},
		{"revive 4 2 20; expire 4 2 20", "10-19", "never"},
		{"expire 4 2 20; commence 4 2 20", "10+", "20+"},
		{"commence 4 2 20; expire 4 2 20; revive 4 2 20; expire 4 -1 20", "10-19", "never"},
		{"expire 4 2 20; expire 4 2 20; expire 4 2 15", "10-14", "never"},
		{"expire 4 2 15; expire 4 2 20", "10-14", "never"},
		{"revive 4 2 30; expire 4 2 20", "10-19", "never"},
		{"expire 4 2 30; revive 4 2 20; expire 4 2 12", "10-11", "never"},
		{"revive 4 2 40; commence 4 2 30; revive 4 2 20", "10+", "20+"},
		{"commence 4 2 5; expire 4 2 7; commence 4 2 9; expire 4 2 12; revive 4 2 13; expire 4 2 14", "5-6,9-11,13", "5-6,9-11,13"},
		{"commence 4 -1 5; expire 4 2 7; revive 4 -1 9; expire 4 1 12; revive 5 -1 13; expire 4 -1 14", "5-6,9-13", "5-6,9-13"},
		{"expire 4 -1 12; commence 4 2 14; correct 4 2 13; happen peace 8; expire 4 2 16; commence 4 3 1", "10-11,14-15", "14-15"},
		{"expire 4 2 12; revive 4 2 11", "10+", "11+"},
		{"expire 4 2 12; revive 4 2 -5; expire 4 2 3; commence 4 2 1048576; expire 4 2 1048577", "0-2,1048576", "0-2,1048576"},
		{"commence 4 2 0; expire 4 2 1048576; expire 4 2 0; revive 4 2 1048577", "never", "never"},
	} {
		expect(t, onDay(10), c.text, c.onTen)
		expect(t, byOrder, c.text, c.byOrder)
	}
}

func TestEvents(t *testing.T) {
	for text, days := range map[string]string{
		"happen peace 8": "8+",
		"happen union 3; happen peace 8; happen peace 5":                "8+",
		"expire 4 2 20; happen peace 8; revive 4 2 30":                  "8-19,30+", // declared by a later order
		"expire 4 2 20; revive 4 2 30; happen peace 25; happen peace 1": "30+",
		"expire 4 2 5; happen peace 8":                                  "never",
		"expire 4 2 9; happen peace 8":                                  "8",
		"commence 4 2 5; happen peace 8":                                "5+",
		"commence 4 2 12; expire 4 2 14":                                "12-13",
		"happen peace -4":                                               "0+",
		"happen peace 1048576":                                          "1048576",
		"happen peace 1048577":                                          "never",
		"happen peace 1048577; happen peace 8":                          "never",
		"happen union 8":                                                "never",
		"happen union 1; expire 4 2 40; happen peaces 2; expire 3 2 30; happen peace 20":      "20-39",
		"happen peace 8; happen peace 30; expire 4 -1 12; correct 4 2 9; happen peace 10":     "8-11",
		"correct 4 2 3; happen peace 8; correct 4 -1 3; correct 4 2 1048577; correct 4 2 -10": "8+",
	} {
		expect(t, onEvent("peace"), text, days)
	}
	l := orders("happen x 8; expire 4 2 20")
	l[0].It.Event = ""
	if got := dateset.Format(checkInForce(t, onDay(3), instruction(onEvent("")), l...)); got != "8-19" {
		t.Error(got)
	}
}

// TestKinds gives InForce instructions of every kind.
func TestKinds(t *testing.T) {
	for kind := -5; kind <= 16; kind++ {
		for _, text := range []string{"", "commence 4 2 3", "revive 4 -1 5; expire 4 2 12", "happen peace 6"} {
			for _, s := range []api.Start{onDay(10), byOrder, onEvent("peace"), {}} {
				d := instruction(s)
				d.It.Kind = kind
				got := checkInForce(t, onDay(8), d, orders(text)...)
				if amends := kind >= api.Insert && kind <= api.Move; !amends && len(got) > 0 || amends && text == "" && s.Kind == api.OnDay && dateset.Format(got) != "10+" {
					t.Error(kind, text, s, got)
				}
			}
		}
	}
	for _, kind := range []int{math.MinInt, math.MaxInt} {
		d := instruction(onDay(10))
		d.It.Kind = kind
		checkInForce(t, onDay(8), d, orders("commence 4 2 3")...)
	}
}

// TestStarts gives InForce every pair of starts.
func TestStarts(t *testing.T) {
	lists := [][]api.EnactedItem{nil, orders("happen peace 20; happen union 3; happen peace 5"), orders("commence 4 2 12; expire 4 2 30; happen union 40")}
	for _, l := range lists {
		for _, a := range starts() {
			for _, it := range starts() {
				checkInForce(t, a, instruction(it), l...)
			}
		}
	}
}

// TestIdentity expects that Act and Item of the enacted item identify the instruction, and nothing else does.
func TestIdentity(t *testing.T) {
	for _, act := range []int{4, 5, 0, -1, math.MaxInt} {
		for _, item := range []int{2, 3, 0, -1, -2, 32, math.MinInt} {
			d := instruction(onDay(10))
			d.Act, d.Item = act, item
			for _, text := range []string{"commence 4 2 5", "expire 4 2 12", "expire 4 -1 13", "revive 0 0 3", "commence -1 -1 4", "expire 5 -2 15", "expire 3 9 2; expire 4 0 20"} {
				checkInForce(t, byOrder, d, orders(text)...)
			}
		}
	}
	d := instruction(onDay(10))
	d.Day, d.It.Act, d.It.Item, d.It.Day, d.It.Event, d.It.For = 7, 6, 1, 4, "peace", "trade"
	for text, days := range map[string]string{"expire 6 1 12; expire 6 -1 12; happen peace 6": "10+", "expire 4 2 15; expire 6 1 12": "10-14"} {
		if got := dateset.Format(checkInForce(t, byOrder, d, orders(text)...)); got != days {
			t.Error(text, got)
		}
	}
	l := orders("expire 5 1 12; expire 5 1 15")
	for i := range l { // what the order is itself does not matter
		l[i].Act, l[i].Item, l[i].Day = 4, 2, 13
	}
	if got := dateset.Format(checkInForce(t, byOrder, d, l...)); got != "10+" {
		t.Error(got)
	}
}

// TestOtherKinds puts items of all kinds that are no orders, with all fields of an order, between orders.
func TestOtherKinds(t *testing.T) {
	for kind := -3; kind <= 15; kind++ {
		if kind >= api.Commence && kind <= api.Revive {
			continue
		}
		for _, item := range []int{2, -1} {
			for _, day := range []int{-1, 5, 12, 25, 40} {
				other := order("commence 4 2 0")
				other.It.Kind, other.It.Item, other.It.Day, other.It.Event = kind, item, day, "union"
				other.It.By = []api.Item{order("expire 4 2 11").It}
				l := slices.Insert(orders("expire 4 2 20; revive 4 2 30"), 1, other)
				if got := dateset.Format(checkInForce(t, onDay(10), instruction(api.Start{}), l...)); got != "10-19,30+" {
					t.Error(kind, item, day, got)
				}
			}
		}
	}
}

// pool returns orders of every kind, some of which refer to the instruction.
func pool() []api.EnactedItem {
	return orders("commence 4 2 3; expire 4 2 3; revive 4 2 4; expire 4 -1 5; commence 4 -1 6; expire 4 2 -1; revive 4 2 1048576; expire 4 2 1048577; happen peace 4; happen peace 2; correct 4 2 3; expire 4 1 1; expire 5 -1 1")
}

// TestShortLists gives InForce all lists of at most four orders of the pool.
func TestShortLists(t *testing.T) {
	var extend func(l []api.EnactedItem)
	extend = func(l []api.EnactedItem) {
		for _, s := range []api.Start{onDay(4), byOrder, onEvent("peace")} {
			checkInForce(t, s, instruction(api.Start{}), l...)
		}
		if len(l) < 4 {
			for _, d := range pool() {
				extend(append(slices.Clone(l), d))
			}
		}
	}
	extend(nil)
}

// randomOrder returns an order that often refers to the instruction, on a day that is often close to those of others.
func randomOrder(r *rand.Rand) api.EnactedItem {
	it := api.Item{Kind: api.Commence + r.Intn(5), Act: 4, Item: r.Intn(4) - 1, Day: r.Intn(30), Event: []string{"peace", "union", ""}[r.Intn(3)]}
	switch r.Intn(8) {
	case 0:
		it.Day = api.MaxDay - 2 + r.Intn(5)
	case 1:
		it.Day = -r.Intn(4)
	case 2:
		it.Kind = r.Intn(16) - 2
	case 3:
		it.Act = r.Intn(6)
	}
	return api.EnactedItem{Act: r.Intn(5), Item: r.Intn(3), Day: r.Intn(20), It: it}
}

// randomOrders returns at most n orders.
func randomOrders(r *rand.Rand, n int) []api.EnactedItem {
	var l []api.EnactedItem
	for range r.Intn(n + 1) {
		l = append(l, randomOrder(r))
	}
	return l
}

// randomStart returns a start, mostly one of the defined kinds.
func randomStart(r *rand.Rand) api.Start {
	return api.Start{Kind: r.Intn(6) - 1, Day: []int{-2, 0, 5, 15, 25, api.MaxDay, api.MaxDay + 1}[r.Intn(7)], Event: []string{"peace", "union", ""}[r.Intn(3)]}
}

func TestRandomLists(t *testing.T) {
	r := rand.New(rand.NewSource(1))
	for range 30000 {
		d := instruction(randomStart(r))
		d.Item, d.It.Kind = r.Intn(3), r.Intn(9)-1
		a, l := randomStart(r), randomOrders(r, 12)
		checkInForce(t, a, d, l...)
		for _, s := range []api.Start{a, d.It.Start} {
			checkInitial(t, s, l...)
			day, ok := commencement.EventDay(s.Event, l...)
			if want, known := eventDay(s.Event, l); day != want || ok != known {
				t.Fatalf("EventDay(%q, %s): %d %v", s.Event, about(l), day, ok)
			}
		}
	}
}

// TestManyOrders gives InForce so many orders that the days make more spans than a canonical list has.
func TestManyOrders(t *testing.T) {
	var l []api.EnactedItem
	var want []api.Span
	for i := range api.MaxParts + 4 {
		l = append(l, order(fmt.Sprintf("commence 4 2 %d", 4*i)), order(fmt.Sprintf("expire 4 -1 %d", 4*i+2)))
		want = append(want, api.Span{From: 4 * i, To: 4*i + 2})
	}
	if got := commencement.InForce(byOrder, instruction(api.Start{}), l...); !slices.Equal(got, want) {
		t.Error(len(got))
	}
	if got := commencement.InForce(byOrder, instruction(api.Start{}), append(l, order("revive 4 2 1"))...); dateset.Format(got) != "0+" {
		t.Error(len(got))
	}
}

// P27.3

// TestFinalOrder looks at all days before and from the day of a final order, compared with those without it.
func TestFinalOrder(t *testing.T) {
	r := rand.New(rand.NewSource(2))
	seen := map[int]int{}
	for range 20000 {
		a, d, l := randomStart(r), instruction(randomStart(r)), randomOrders(r, 8)
		last := randomOrder(r)
		before, after := commencement.InForce(a, d, l...), commencement.InForce(a, d, append(slices.Clone(l), last)...)
		if !refers(last.It, d.Act, d.Item) || last.It.Kind == api.Correct {
			if !slices.Equal(before, after) && last.It.Kind != api.DeclareEvent {
				t.Fatal(about(l), about([]api.EnactedItem{last}), before, after)
			}
			continue
		}
		seen[last.It.Kind]++
		for _, day := range slices.Concat([]int{0, last.It.Day - 1, last.It.Day, last.It.Day + 1, api.MaxDay - 1, api.MaxDay}, dateset.Boundaries(before), dateset.Boundaries(after)) {
			if day < 0 || day > api.MaxDay {
				continue
			}
			want := last.It.Kind != api.Expire
			if day < last.It.Day {
				want = dateset.Contains(before, day)
			}
			if dateset.Contains(after, day) != want {
				t.Fatal(day, about(l), about([]api.EnactedItem{last}), before, after)
			}
		}
	}
	if len(seen) != 3 {
		t.Error(seen)
	}
}

// TestOtherOrders leaves out the orders that neither refer to the instruction nor declare an event.
func TestOtherOrders(t *testing.T) {
	r := rand.New(rand.NewSource(3))
	for range 10000 {
		a, d, l := randomStart(r), instruction(randomStart(r)), randomOrders(r, 10)
		rest := slices.DeleteFunc(slices.Clone(l), func(o api.EnactedItem) bool {
			return !commencement.Refers(o.It, d.Act, d.Item) && o.It.Kind != api.DeclareEvent
		})
		if x, y := commencement.InForce(a, d, l...), commencement.InForce(a, d, rest...); !slices.Equal(x, y) {
			t.Fatal(about(l), x, y)
		}
	}
}
