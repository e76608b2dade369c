package inforce_test

import (
	"fmt"
	"math"
	"math/rand"
	"slices"
	"strings"
	"testing"

	"pandect/api"
	"pandect/dateset"
	"pandect/inforce"
)

// Amendments of the tests have act 4 and, unless a test says otherwise, index 0.

func TestExample(t *testing.T) {
	four := enacted(4, 5, "by order", "repeal section 3", "repeal section 4")
	l := gazettes(four, orders(6, 6, "commence act 4 from day 10", "expire act 4 from day 20"))
	if got := inforce.Breakpoints(l...); !slices.Equal(got, []int{0, 10, 20}) {
		t.Error(got)
	}
	for day, want := range map[int]string{0: "", 9: "", 10: "4.0 4.1", 15: "4.0 4.1", 19: "4.0 4.1", 20: "", api.MaxDay: ""} {
		expectOn(t, day, "", want, l...)
	}
	checkAll(t, l)
	checkAll(t, gazettes(enacted(4, 5, "from day 10", "repeal section 3"), orders(6, 6, "expire act 4 from day 20")))
}

// P29.1: Days

// TestNothing gives the functions no gazettes, gazettes without acts, and acts without amendments.
func TestNothing(t *testing.T) {
	for _, l := range [][]api.Gazette{
		nil, {}, {gazette()}, {gazette(), gazette(), {}},
		gazettes(enacted(4, 5, "from day 10")),
		{gazette(), gazette(enacted(4, 5, "from day 10"), enacted(5, 5, "by order")), gazette(), gazette(enacted(4, 6, "from day 11"))},
		gazettes(enacted(4, 5, "from day 10", "commence act 4 from day 8", "happen peace on day 9", "expire act 4 item 0 from day 20", "revive act 4 item 1 from day 21", "correct act 4 item 0 as repeal section 3 read for tax from day 3")),
	} {
		if got := inforce.Breakpoints(l...); !slices.Equal(got, []int{0}) {
			t.Error(about(l), got)
		}
		if len(inforce.Purposes(l...)) != 0 || len(inforce.Pending(l...)) != 0 || inforce.Interval(0, l...) != 0 || inforce.Interval(api.MaxDay, l...) != 0 {
			t.Error(about(l))
		}
		for _, day := range []int{-1, 0, 3, 8, 10, 20, 21, api.MaxDay, api.Forever} {
			expectOn(t, day, "", "", l...)
			expectOn(t, day, "tax", "", l...)
		}
		expectDays(t, 4, 0, "never", l...)
	}
}

// instructions returns the text of an instruction of each kind.
func instructions() []string {
	return []string{
		"into all last insert \"section 9: a | b c\n  paragraph 1 | d\n\"", "repeal section 3", `in section 3 for "a b" put "c d" each`, `in section 3 behind "a" put "b" at 2`, `head section 3 as "e f"`, "number section 3 as 4", "move section 3 into part 2 last",
		"commence act 1 from day 9", "expire act 1 item 0 from day 9", "revive act 1 item 0 from day 9", "happen peace on day 9", "correct act 1 item 1 as repeal section 8",
	}
}

func TestKinds(t *testing.T) {
	l := gazettes(enacted(4, 5, "from day 10", instructions()...))
	for item := range 12 {
		want := "never"
		if item <= api.Move {
			want = "10+"
		}
		expectDays(t, 4, item, want, l...)
	}
	expectOn(t, 10, "", "4.0 4.1 4.2 4.3 4.4 4.5 4.6", l...)
	for _, kind := range []int{math.MinInt, -1, 12, 13, math.MaxInt} { // undefined ones
		odd := enacted(4, 5, "from day 10", "repeal section 3", "repeal section 4 read for tax", "repeal section 5")
		odd.Items[1].Kind = kind
		expectDays(t, 4, 1, "never", gazettes(odd)...)
		expectOn(t, 10, "tax", "4.0 4.2", gazettes(odd)...)
	}
}

func TestMissing(t *testing.T) {
	l := gazettes(enacted(4, 5, "from day 10", "repeal section 3", "repeal section 4"), orders(6, 6, "revive act 4 from day 3", "commence act 7 from day 3"))
	for _, x := range [][2]int{{4, -1}, {4, 2}, {4, 3}, {5, 0}, {6, 0}, {6, -1}, {7, 0}, {7, -1}, {0, 0}, {-4, 0}, {-1, -1}, {4, math.MinInt}, {4, math.MaxInt}, {math.MinInt, 0}, {math.MaxInt, 1}} {
		expectDays(t, x[0], x[1], "never", l...)
	}
	expectDays(t, 4, 0, "3+", l...)
	expectDays(t, 4, 1, "3+", l...)
}

// TestNegativeNumbers expects that acts with any number count.
func TestNegativeNumbers(t *testing.T) {
	for _, number := range []int{math.MinInt, -4, 0, math.MaxInt} {
		four, order := enacted(4, 5, "from day 10", "repeal section 3", "repeal section 4"), orders(6, 6, "expire act 6 item 1 from day 20")
		four.Number, order.Items[0].Act = number, number
		l := gazettes(four, order)
		expectDays(t, number, 0, "10+", l...)
		expectDays(t, number, 1, "10-19", l...)
		expectDays(t, number, -1, "never", l...)
		order.Items[0].Item = -2 // which refers to no instruction
		expectDays(t, number, 1, "10+", l...)
	}
}

func TestStarts(t *testing.T) {
	for _, c := range []struct{ start, suffix, want string }{
		{"from day 10", "", "10+"}, {"from day 10", " from day 12", "12+"}, {"from day 10", " from day 7", "7+"}, {"from day 10", " by order", "never"}, {"from day 10", " on event peace", "30+"}, {"from day 10", " on event war", "never"},
		{"by order", "", "never"}, {"by order", " from day 12", "12+"}, {"by order", " by order", "never"}, {"by order", " on event peace", "30+"}, {"by order", " on event war", "never"},
		{"on event peace", "", "30+"}, {"on event peace", " from day 12", "12+"}, {"on event peace", " by order", "never"}, {"on event peace", " on event union", "40+"}, {"on event peace", " on event war", "never"},
		{"on event war", "", "never"}, {"on event war", " from day 12", "12+"}, {"on event war", " on event union", "40+"},
		{"from day 0", "", "0+"}, {"from day 10", " from day 0", "0+"}, {"from day 1048576", "", "1048576"}, {"by order", " from day 1048575", "1048575+"},
	} {
		events := orders(6, 6, "happen union on day 40", "happen peace on day 30", "happen peace on day 2")
		expectDays(t, 4, 0, c.want, gazettes(enacted(4, 5, c.start, "repeal section 3"+c.suffix), events)...)
		expectDays(t, 4, 1, c.want, gazettes(events, enacted(9, 5, "from day 3", "repeal section 1"), enacted(4, 9, c.start, "repeal section 2 from day 8", "repeal section 3"+c.suffix))...)
	}
	for _, c := range []struct {
		act, it api.Start
		want    string
	}{ // which no valid act has
		{api.Start{}, api.Start{}, "never"}, {api.Start{Day: 9}, api.Start{}, "never"}, {api.Start{Kind: 4, Day: 9}, api.Start{}, "never"}, {api.Start{Kind: -1}, api.Start{}, "never"}, {api.Start{Kind: api.OnDay, Day: 9}, api.Start{Kind: 4}, "never"}, {api.Start{Kind: api.OnDay, Day: 9}, api.Start{Day: 3, Event: "x"}, "9+"},
		{api.Start{Kind: api.OnDay, Day: -1}, api.Start{}, "0+"}, {api.Start{Kind: api.OnDay, Day: math.MinInt}, api.Start{}, "0+"}, {api.Start{Kind: api.OnDay, Day: api.Forever}, api.Start{}, "never"}, {api.Start{Kind: api.OnDay, Day: math.MaxInt}, api.Start{}, "never"},
		{api.Start{}, api.Start{Kind: api.OnDay, Day: -1}, "0+"}, {api.Start{}, api.Start{Kind: api.OnDay, Day: api.Forever}, "never"}, {api.Start{Kind: api.OnEvent}, api.Start{}, "never"},
	} {
		four := enacted(4, 5, "by order", "repeal section 3")
		four.Start, four.Items[0].Start = c.act, c.it
		expectDays(t, 4, 0, c.want, gazettes(four)...)
	}
}

// TestStartsOfDuplicates expects the start of the act that counts, whatever its other publications say.
func TestStartsOfDuplicates(t *testing.T) {
	one, two, other := enacted(4, 5, "from day 10", "repeal section 3"), enacted(4, 3, "from day 8", "repeal section 3", "repeal section 4"), enacted(5, 4, "from day 9", "repeal section 5")
	expectDays(t, 4, 0, "10+", gazettes(one, two)...)
	expectDays(t, 4, 1, "never", gazettes(one, two)...)
	expectDays(t, 4, 0, "8+", gazettes(two, one)...)
	expectDays(t, 4, 1, "8+", gazettes(two, one)...)
	expectDays(t, 4, 0, "10+", gazette(other, one, two, one), gazette(two))
	expectDays(t, 4, 0, "10+", gazettes(one, one, one)...)
	expectOn(t, 10, "", "5.0 4.0", gazettes(one, other, two, other, one)...)
	order, again := orders(6, 6, "expire act 4 from day 20"), orders(6, 6, "expire act 4 from day 15", "expire act 4 from day 12")
	expectDays(t, 4, 0, "10-19", gazettes(one, order, again)...)
	expectDays(t, 4, 0, "10-11", gazettes(again, one, order)...)
}

// TestEvents declares an event several times: the first declaration in legal order counts.
func TestEvents(t *testing.T) {
	four := enacted(4, 5, "on event peace", "repeal section 3")
	for _, c := range []struct {
		want string
		acts []api.Act
	}{
		{"never", nil},
		{"never", []api.Act{orders(6, 6, "happen war on day 20", "happen peace-2 on day 20", "happen pea on day 20")}},
		{"20+", []api.Act{orders(6, 6, "happen peace on day 20")}},
		{"20+", []api.Act{orders(6, 6, "happen war on day 3", "happen peace on day 20", "happen peace on day 2")}},
		{"20+", []api.Act{orders(6, 6, "happen peace on day 20"), orders(7, 7, "happen peace on day 30")}},
		{"30+", []api.Act{orders(6, 7, "happen peace on day 20"), orders(7, 6, "happen peace on day 30")}},
		{"20+", []api.Act{orders(7, 6, "happen peace on day 30"), orders(6, 6, "happen peace on day 20")}},
		{"20+", []api.Act{orders(2, 2, "happen peace on day 20"), orders(6, 6, "happen peace on day 30")}}, // declared before the act
		{"20-24", []api.Act{orders(2, 2, "happen peace on day 20", "expire act 4 from day 25")}},
		{"20-24", []api.Act{orders(2, 2, "expire act 4 from day 25", "happen peace on day 20")}},
		{"20-24", []api.Act{orders(2, 2, "expire act 4 from day 25"), orders(6, 6, "happen peace on day 20")}},
		{"7+", []api.Act{orders(6, 6, "happen peace on day 20", "commence act 4 item 0 from day 7")}},
		{"0+", []api.Act{orders(6, 6, "happen peace on day 0")}}, {"1048576", []api.Act{orders(6, 6, "happen peace on day 1048576")}},
	} {
		expectDays(t, 4, 0, c.want, gazettes(append([]api.Act{four}, c.acts...)...)...)
		expectDays(t, 4, 0, c.want, gazettes(append(slices.Clone(c.acts), four)...)...)
	}
	own := enacted(4, 5, "on event peace", "repeal section 3", "happen peace on day 20", "happen peace on day 10") // by the act itself
	expectDays(t, 4, 0, "20+", gazettes(own)...)
	expectDays(t, 4, 1, "never", gazettes(own)...)
}

// TestOrders puts the orders into acts before and after the amended act in legal order, and into the act itself.
func TestOrders(t *testing.T) {
	for _, c := range []struct{ start, orders, want string }{
		{"by order", "commence act 4 from day 7", "7+"}, {"by order", "commence act 4 item 0 from day 7", "7+"}, {"by order", "commence act 4 item 1 from day 7", "never"}, {"by order", "commence act 3 item 0 from day 7;commence act 5 from day 7", "never"},
		{"from day 10", "commence act 4 from day 7", "7+"}, {"from day 10", "commence act 4 from day 17", "10+"},
		{"from day 10", "expire act 4 from day 20", "10-19"}, {"from day 10", "expire act 4 item 0 from day 20", "10-19"}, {"from day 10", "expire act 4 item 1 from day 20", "10+"}, {"from day 10", "expire act 5 from day 20", "10+"}, {"from day 10", "expire act 4 from day 11", "10"}, {"from day 10", "expire act 4 from day 10", "never"}, {"from day 10", "expire act 4 from day 9", "never"},
		{"from day 10", "expire act 4 from day 20;revive act 4 item 0 from day 30", "10-19,30+"}, {"from day 10", "revive act 4 from day 30;expire act 4 from day 20", "10-19"}, {"from day 10", "expire act 4 from day 10;revive act 4 from day 30", "30+"},
		{"from day 10", "expire act 4 from day 20;revive act 4 from day 30;expire act 4 item 0 from day 40;commence act 4 item 0 from day 50", "10-19,30-39,50+"}, {"from day 10", "expire act 4 from day 20;revive act 4 from day 20", "10+"},
		{"from day 10", "expire act 4 from day 1048576", "10-1048575"}, {"by order", "revive act 4 from day 1048576", "1048576"}, {"from day 10", "expire act 4 from day 0", "never"}, {"by order", "revive act 4 from day 0", "0+"},
		{"from day 10", "correct act 4 item 1 as repeal section 9 from day 2;expire act 4 item 1 from day 3", "10+"},
	} {
		l := strings.Split(c.orders, ";")
		four := enacted(4, 5, c.start, "repeal section 3", "repeal section 4 from day 5")
		for _, order := range []api.Act{orders(6, 6, l...), orders(6, 5, l...), orders(3, 6, l...), orders(6, 4, l...), orders(3, 5, l...)} {
			expectDays(t, 4, 0, c.want, gazettes(four, order)...)
			expectDays(t, 4, 0, c.want, gazettes(order, four)...)
			expectDays(t, 4, 0, c.want, gazette(order, four))
		}
		expectDays(t, 4, 0, c.want, gazettes(enacted(4, 5, c.start, append([]string{"repeal section 3", "repeal section 4 from day 5"}, l...)...))...)
	}
}

// TestOrderOfOrders divides orders between acts: they are applied in legal order, not in that of their publication.
func TestOrderOfOrders(t *testing.T) {
	four := enacted(4, 5, "from day 10", "repeal section 3")
	expire, revive := "expire act 4 from day 20", "revive act 4 from day 30"
	for _, c := range []struct {
		want string
		a, b api.Act
	}{
		{"10-19,30+", orders(6, 6, expire), orders(7, 7, revive)}, {"10-19", orders(6, 7, expire), orders(7, 6, revive)}, {"10-19,30+", orders(6, 6, expire), orders(7, 6, revive)}, {"10-19", orders(7, 6, expire), orders(6, 6, revive)},
		{"10-19,30+", orders(6, 2, expire), orders(7, 7, revive)}, {"10-19", orders(6, 7, expire), orders(7, 2, revive)}, {"10-19,30+", orders(2, 5, expire), orders(6, 5, revive)}, {"10-19", orders(6, 5, expire), orders(2, 5, revive)},
		{"10-19,30+", orders(9, 6, expire), orders(10, 6, revive)},
	} {
		for _, l := range [][]api.Act{{four, c.a, c.b}, {four, c.b, c.a}, {c.a, c.b, four}, {c.b, c.a, four}, {c.a, four, c.b}, {c.b, four, c.a}} {
			expectDays(t, 4, 0, c.want, gazettes(l...)...)
			expectDays(t, 4, 0, c.want, gazette(l...))
		}
	}
}

// TestCorrected expects the Start and the For of the replacement, as soon as the correction is published.
func TestCorrected(t *testing.T) {
	events := orders(8, 8, "happen peace on day 40")
	for _, c := range []struct{ was, by, before, after, purpose string }{
		{"repeal section 3 read for tax from day 9", "repeal section 4 read for trade from day 20", "9+", "20+", "trade"},
		{"repeal section 3 read for tax from day 9", "repeal section 4", "9+", "10+", ""},
		{"repeal section 3", "repeal section 4 read for trade", "10+", "10+", "trade"},
		{"repeal section 3", "number section 4 as 5 by order", "10+", "never", ""},
		{"repeal section 3 by order", "repeal section 4 on event peace", "never", "40+", ""},
		{"repeal section 3 on event peace", "repeal section 4 on event war", "40+", "never", ""},
	} {
		four, correct := enacted(4, 5, "from day 10", c.was), orders(6, 6, "correct act 4 item 0 as "+c.by)
		expectDays(t, 4, 0, c.before, gazettes(events, four)...)
		for _, l := range [][]api.Gazette{gazettes(events, four, correct), gazettes(correct, events, four), {gazette(four, events), gazette(), gazette(correct)}} {
			expectDays(t, 4, 0, c.after, l...)
			for _, d := range inforce.On(50, c.purpose, l...) {
				if !same(d, api.EnactedItem{Act: 4, Day: 5, It: item(c.by)}) {
					t.Error(c, d)
				}
			}
			if c.purpose != "tax" {
				expectOn(t, 50, "tax", places(inforce.On(50, "", l...)), l...)
			}
		}
	}
}

// TestCorrectedAndOrdered expects that orders are about the corrected amendment too, and what is in force of several corrections.
func TestCorrectedAndOrdered(t *testing.T) {
	four := enacted(4, 5, "from day 10", "repeal section 3")
	correct, order := orders(6, 6, "correct act 4 item 0 as repeal section 4 from day 12"), orders(7, 7, "expire act 4 from day 20")
	expectDays(t, 4, 0, "12-19", gazettes(four, correct, order)...)
	expectDays(t, 4, 0, "12-19", gazettes(order, correct, four)...)
	later, earlier := orders(9, 9, "correct act 4 item 0 as repeal section 5 from day 13"), orders(2, 2, "correct act 4 item 0 as repeal section 6 from day 14")
	expectDays(t, 4, 0, "13-19", gazettes(four, later, correct, order)...)
	expectDays(t, 4, 0, "12-19", gazettes(four, earlier, correct, order)...)
	expectDays(t, 4, 0, "14-19", gazettes(four, earlier, order)...)
	bad := orders(6, 6, "correct act 4 item 0 as repeal section 4 from day 12")
	bad.Items[0].By[0] = item("happen peace on day 3") // by no amendment
	expectDays(t, 4, 0, "10-19", gazettes(four, bad, order)...)
	wrong := orders(6, 6, "correct act 7 item 0 as repeal section 4 from day 12") // of no amendment
	expectDays(t, 7, 0, "never", gazettes(four, wrong, order)...)
	expectDays(t, 4, 0, "10-19", gazettes(four, wrong, order)...)
}

// P29.1: On

// sample returns gazettes with amendments that are in force on several spans, for no and for two purposes.
func sample() []api.Gazette {
	return gazettes(
		enacted(4, 5, "from day 10", "repeal section 3", "repeal section 4 read for tax", "repeal section 5 read for trade from day 15", "repeal section 6 by order", "happen peace on day 18"),
		orders(6, 6, "expire act 4 item 0 from day 20", "revive act 4 item 0 from day 30", "expire act 4 item 2 from day 16", "correct act 9 item 0 as repeal section 9"),
		enacted(7, 7, "on event peace", "repeal section 7 read for tax from day 0", "repeal section 8", "repeal section 9 from day 1048576"),
	)
}

func TestOn(t *testing.T) {
	l := sample()
	checkAll(t, l)
	for _, c := range []struct {
		day              int
		none, tax, trade string
	}{
		{math.MinInt, "", "", ""}, {-1, "", "", ""}, {0, "", "7.0", ""}, {9, "", "7.0", ""}, {10, "4.0", "4.0 4.1 7.0", "4.0"}, {11, "4.0", "4.0 4.1 7.0", "4.0"},
		{14, "4.0", "4.0 4.1 7.0", "4.0"}, {15, "4.0", "4.0 4.1 7.0", "4.0 4.2"}, {16, "4.0", "4.0 4.1 7.0", "4.0"}, {17, "4.0", "4.0 4.1 7.0", "4.0"}, {18, "4.0 7.1", "4.0 4.1 7.0 7.1", "4.0 7.1"},
		{19, "4.0 7.1", "4.0 4.1 7.0 7.1", "4.0 7.1"}, {20, "7.1", "4.1 7.0 7.1", "7.1"}, {29, "7.1", "4.1 7.0 7.1", "7.1"}, {30, "4.0 7.1", "4.0 4.1 7.0 7.1", "4.0 7.1"},
		{api.MaxDay - 1, "4.0 7.1", "4.0 4.1 7.0 7.1", "4.0 7.1"}, {api.MaxDay, "4.0 7.1 7.2", "4.0 4.1 7.0 7.1 7.2", "4.0 7.1 7.2"}, {api.Forever, "", "", ""}, {api.Forever + 1, "", "", ""}, {math.MaxInt, "", "", ""},
	} {
		expectOn(t, c.day, "", c.none, l...)
		expectOn(t, c.day, "tax", c.tax, l...)
		expectOn(t, c.day, "trade", c.trade, l...)
		for _, unknown := range []string{"ta", "taxx", "Tax", "tax ", "\x00", "peace"} {
			expectOn(t, c.day, unknown, c.none, l...)
		}
	}
}

// TestOnGivesItems looks at the days of enactment and the instructions.
func TestOnGivesItems(t *testing.T) {
	l := gazettes(enacted(4, 5, "from day 10", instructions()...), orders(6, 3, "correct act 4 item 1 as repeal section 5 read for tax", "correct act 4 item 2 as repeal section 6 read for tax"), enacted(2, 9, "from day 10", "repeal section 7 read for tax"))
	var want []api.EnactedItem
	for i, text := range instructions()[:api.Move+1] {
		want = append(want, api.EnactedItem{Act: 4, Item: i, Day: 5, It: item(text)})
	}
	want[1].It, want[2].It = item("repeal section 5 read for tax"), item("repeal section 6 read for tax")
	want = append(want, api.EnactedItem{Act: 2, Item: 0, Day: 9, It: item("repeal section 7 read for tax")})
	if got := inforce.On(10, "tax", l...); !same(got, want) {
		t.Error(got)
	}
	without := slices.Concat(want[:1], want[3:7])
	if got := inforce.On(10, "", l...); !same(got, without) {
		t.Error(got)
	}
}

// TestLegalOrder publishes acts in another order than that of their days and numbers.
func TestLegalOrder(t *testing.T) {
	repeals := []string{"repeal section 3", "happen peace on day 3", "repeal section 4"}
	nine, ten, two, eleven := enacted(9, 5, "from day 12", repeals...), enacted(10, 5, "from day 11", repeals...), enacted(2, 6, "from day 10", repeals...), enacted(11, 4, "from day 13", repeals...)
	want := "11.0 11.2 9.0 9.2 10.0 10.2 2.0 2.2"
	for _, l := range [][]api.Act{{eleven, nine, ten, two}, {two, ten, nine, eleven}, {two, eleven, ten, nine}, {ten, nine, two, eleven, ten}} {
		expectOn(t, 13, "", want, gazettes(l...)...)
		expectOn(t, 13, "", want, gazette(l...))
		expectOn(t, 12, "", "9.0 9.2 10.0 10.2 2.0 2.2", gazettes(l...)...)
		checkAll(t, gazettes(l...))
	}
	var many []string
	for i := range 12 {
		many = append(many, fmt.Sprint("repeal section ", i+1))
	}
	for i, d := range inforce.On(9, "", gazettes(enacted(4, 5, "from day 9", many...))...) {
		if d.Item != i {
			t.Error(i, d.Item)
		}
	}
}

// P29.2

func TestBreakpoints(t *testing.T) {
	for _, c := range []struct {
		acts []api.Act
		want []int
	}{
		{nil, []int{0}},
		{[]api.Act{orders(6, 6, "commence act 4 from day 7", "expire act 4 from day 9", "happen peace on day 8")}, []int{0}},
		{[]api.Act{enacted(4, 5, "by order", "repeal section 3")}, []int{0}},                                                                                             // never in force
		{[]api.Act{enacted(4, 5, "from day 10")}, []int{0}},                                                                                                              // without items
		{[]api.Act{enacted(4, 5, "from day 10", "happen peace on day 3")}, []int{0}},                                                                                     // without amendments
		{[]api.Act{enacted(4, 5, "from day 0", "repeal section 3")}, []int{0}},                                                                                           // from day 0
		{[]api.Act{enacted(4, 5, "from day 0", "repeal section 3"), orders(6, 6, "expire act 4 from day 20")}, []int{0, 20}},                                             //
		{[]api.Act{enacted(4, 5, "from day 1", "repeal section 3")}, []int{0, 1}},                                                                                        //
		{[]api.Act{enacted(4, 5, "from day 10", "repeal section 3")}, []int{0, 10}},                                                                                      // until MaxDay
		{[]api.Act{enacted(4, 5, "from day 10", "repeal section 3"), orders(6, 6, "expire act 4 from day 1048575")}, []int{0, 10, 1048575}},                              //
		{[]api.Act{enacted(4, 5, "from day 10", "repeal section 3"), orders(6, 6, "expire act 4 from day 1048576")}, []int{0, 10, 1048576}},                              // until the day before MaxDay
		{[]api.Act{enacted(4, 5, "from day 1048576", "repeal section 3")}, []int{0, 1048576}},                                                                            // on MaxDay alone
		{[]api.Act{enacted(4, 5, "from day 10", "repeal section 3", "repeal section 4", "repeal section 5 from day 10")}, []int{0, 10}},                                  // equal days
		{[]api.Act{enacted(4, 5, "from day 10", "repeal section 3", "repeal section 4 from day 20"), orders(6, 6, "expire act 4 item 0 from day 20")}, []int{0, 10, 20}}, // one ends where another begins
		{[]api.Act{enacted(4, 5, "from day 30", "repeal section 3", "repeal section 4 from day 20", "repeal section 5 from day 100", "repeal section 6 from day 3")}, []int{0, 3, 20, 30, 100}},
		{[]api.Act{enacted(4, 5, "from day 10", "repeal section 3"), orders(6, 6, "expire act 4 from day 20", "revive act 4 from day 30", "expire act 4 from day 40")}, []int{0, 10, 20, 30, 40}},
		{[]api.Act{enacted(4, 5, "from day 10", "repeal section 3"), orders(6, 6, "expire act 4 from day 20", "revive act 4 from day 20")}, []int{0, 10}},
		{[]api.Act{enacted(4, 5, "from day 10", "repeal section 3 read for tax", "repeal section 4 read for trade from day 12")}, []int{0, 10, 12}}, // for any purpose
	} {
		for _, l := range [][]api.Gazette{gazettes(c.acts...), {gazette(c.acts...)}} {
			if got := inforce.Breakpoints(l...); !slices.Equal(got, c.want) {
				t.Errorf("%s%v, want %v", about(l), got, c.want)
			}
			checkAll(t, l)
		}
	}
}

func TestInterval(t *testing.T) {
	l := gazettes(enacted(4, 5, "from day 10", "repeal section 3", "repeal section 4 from day 1048576", "repeal section 5 read for tax from day 12", "repeal section 6 from day 10"), orders(6, 6, "expire act 4 item 0 from day 20"))
	for day, want := range map[int]int{
		math.MinInt: -1, -2: -1, -1: -1, 0: 0, 1: 0, 9: 0, 10: 1, 11: 1, 12: 2, 13: 2, 19: 2, 20: 3, 21: 3, 1000: 3, api.MaxDay - 1: 3, api.MaxDay: 4, api.Forever: -1, api.Forever + 1: -1, math.MaxInt: -1,
	} {
		if got := inforce.Interval(day, l...); got != want {
			t.Error(day, got)
		}
	}
	for i, b := range inforce.Breakpoints(l...) {
		if x, y := inforce.Interval(b-1, l...), inforce.Interval(b, l...); x != i-1 || y != i {
			t.Error(b, x, y)
		}
	}
	for day, want := range map[int]int{math.MinInt: -1, -1: -1, 0: 0, 1: 0, api.MaxDay: 0, api.Forever: -1, math.MaxInt: -1} {
		if x, y := inforce.Interval(day), inforce.Interval(day, gazettes(enacted(4, 5, "from day 0", "repeal section 3"))...); x != want || y != want {
			t.Error(day, x, y)
		}
	}
}

// P29.3

func TestPurposes(t *testing.T) {
	repeals := func(number int, purposes ...string) api.Act {
		a := enacted(number, 5, "from day 10")
		for _, s := range purposes {
			it := item("repeal section 3")
			it.For = s
			a.Items = append(a.Items, it)
		}
		return a
	}
	others := enacted(8, 5, "from day 10", instructions()[api.Commence:]...)
	for i := range others.Items {
		others.Items[i].For = fmt.Sprint("order", i)
	}
	for _, c := range []struct {
		acts []api.Act
		want []string
	}{
		{nil, nil}, {[]api.Act{repeals(4)}, nil}, {[]api.Act{repeals(4, "", "")}, nil}, {[]api.Act{others}, nil},
		{[]api.Act{repeals(4, "tax")}, []string{"tax"}}, {[]api.Act{repeals(4, "tax", "", "tax", "tax")}, []string{"tax"}}, {[]api.Act{repeals(4, "tax", "trade"), repeals(5, "trade", "tax")}, []string{"tax", "trade"}},
		{[]api.Act{repeals(4, "trade", "tax", "a", "war")}, []string{"a", "tax", "trade", "war"}},
		{[]api.Act{repeals(4, "tax", "wax", "max", "tay", "taw")}, []string{"max", "taw", "tax", "tay", "wax"}}, // that differ in the first or the last byte
		{[]api.Act{repeals(4, "tax-2", "tax-10", "tax", "ta", "taxes")}, []string{"ta", "tax", "tax-10", "tax-2", "taxes"}},
		{[]api.Act{repeals(4, "\xff", "z", "Z", "\x00", " ", "é", "\xff\x00")}, []string{"\x00", " ", "Z", "z", "é", "\xff", "\xff\x00"}}, // bytewise
		{[]api.Act{others, repeals(4, "tax")}, []string{"tax"}},
		{[]api.Act{repeals(4, "tax"), repeals(4, "trade")}, []string{"tax"}}, // a duplicate
		{[]api.Act{repeals(4, "tax"), orders(6, 6, "correct act 4 item 0 as repeal section 3 read for trade")}, []string{"trade"}},
		{[]api.Act{enacted(4, 5, "by order", "repeal section 3 read for tax")}, []string{"tax"}}, // that is never in force
	} {
		for _, l := range [][]api.Gazette{gazettes(c.acts...), {gazette(c.acts...)}} {
			if got := inforce.Purposes(l...); !slices.Equal(got, c.want) {
				t.Errorf("%s%q, want %q", about(l), got, c.want)
			}
			checkAll(t, l)
		}
	}
}

func TestPending(t *testing.T) {
	for _, c := range []struct {
		acts []api.Act
		want []api.ItemRef
	}{
		{nil, nil},
		{[]api.Act{enacted(4, 5, "from day 10", "repeal section 3")}, nil},
		{[]api.Act{enacted(4, 5, "by order", "repeal section 3", "repeal section 4 from day 8", "repeal section 5 read for tax")}, []api.ItemRef{{Act: 4}, {Act: 4, Item: 2}}},
		{[]api.Act{enacted(4, 5, "by order", "repeal section 3", "repeal section 4"), orders(6, 6, "commence act 4 item 1 from day 8")}, []api.ItemRef{{Act: 4}}},
		{[]api.Act{enacted(4, 5, "from day 10", "repeal section 3"), orders(6, 6, "expire act 4 from day 10")}, []api.ItemRef{{Act: 4}}},                             // on its first day
		{[]api.Act{enacted(4, 5, "from day 10", "repeal section 3"), orders(6, 6, "expire act 4 from day 11")}, nil},                                                 // on the next one
		{[]api.Act{enacted(4, 5, "from day 0", "repeal section 3"), orders(6, 6, "expire act 4 from day 0")}, []api.ItemRef{{Act: 4}}},                               //
		{[]api.Act{enacted(4, 5, "from day 10", "repeal section 3"), orders(6, 6, "expire act 4 from day 10", "revive act 4 from day 30")}, nil},                     // revived
		{[]api.Act{enacted(4, 5, "from day 10", "repeal section 3"), orders(6, 6, "revive act 4 from day 30", "expire act 4 from day 10")}, []api.ItemRef{{Act: 4}}}, // and expired
		{[]api.Act{enacted(4, 5, "from day 10", "repeal section 3"), orders(6, 6, "expire act 4 from day 10", "revive act 4 from day 1048576")}, nil},                // on MaxDay alone
		{[]api.Act{enacted(4, 5, "by order", instructions()...)}, []api.ItemRef{{Act: 4}, {Act: 4, Item: 1}, {Act: 4, Item: 2}, {Act: 4, Item: 3}, {Act: 4, Item: 4}, {Act: 4, Item: 5}, {Act: 4, Item: 6}}},
		{[]api.Act{enacted(4, 5, "on event war", "repeal section 3", "repeal section 4 on event peace"), orders(6, 6, "happen peace on day 9")}, []api.ItemRef{{Act: 4}}},
		{[]api.Act{orders(9, 5, "repeal section 3", "repeal section 4"), orders(10, 5, "repeal section 3"), orders(2, 6, "repeal section 3"), orders(11, 4, "repeal section 3")}, []api.ItemRef{{Act: 11}, {Act: 9}, {Act: 9, Item: 1}, {Act: 10}, {Act: 2}}}, // in legal order
		{[]api.Act{orders(4, 5, "repeal section 3"), enacted(4, 5, "from day 3", "repeal section 3", "repeal section 4 by order")}, []api.ItemRef{{Act: 4}}},                                                                                                  // a duplicate
		{[]api.Act{enacted(4, 5, "from day 9", "repeal section 3"), orders(6, 6, "correct act 4 item 0 as repeal section 3 by order")}, []api.ItemRef{{Act: 4}}},
	} {
		for _, l := range [][]api.Gazette{gazettes(c.acts...), {gazette(c.acts...)}} {
			if got := inforce.Pending(l...); !slices.Equal(got, c.want) {
				t.Errorf("%s%v, want %v", about(l), got, c.want)
			}
			checkAll(t, l)
		}
	}
}

// Random gazettes

// randomItem returns an instruction, often an order that refers to an item of one of few acts.
func randomItem(r *rand.Rand) api.Item {
	day := []int{0, r.Intn(12), r.Intn(12), r.Intn(12), api.MaxDay - r.Intn(2), r.Intn(3) - 4, api.Forever + r.Intn(2)}[r.Intn(7)]
	event := []string{"peace", "war", ""}[r.Intn(3)]
	it := api.Item{Kind: r.Intn(12), Act: 1 + r.Intn(4), Item: r.Intn(4) - 1, Day: day, Event: event, For: []string{"", "", "tax", "trade"}[r.Intn(4)]}
	if r.Intn(2) == 0 {
		it.Kind = r.Intn(7)
	}
	it.Start = api.Start{Kind: []int{0, 0, 1, 2, 3, 4}[r.Intn(6)], Day: r.Intn(12), Event: event}
	if it.Kind == api.Correct {
		it.By = []api.Item{{Kind: r.Intn(9), For: "tax", Start: it.Start}}
	}
	return it
}

// randomGazettes returns up to five gazettes with some acts, of which some have the number of another.
func randomGazettes(r *rand.Rand) []api.Gazette {
	var l []api.Gazette
	for range r.Intn(6) {
		g := gazette()
		for range r.Intn(4) {
			a := api.Act{Number: 1 + r.Intn(6), Day: r.Intn(4), Start: api.Start{Kind: 1 + r.Intn(3), Day: r.Intn(12), Event: "peace"}}
			for range r.Intn(7) {
				a.Items = append(a.Items, randomItem(r))
			}
			g.Acts = append(g.Acts, a)
		}
		l = append(l, g)
	}
	return l
}

func TestRandomGazettes(t *testing.T) {
	r := rand.New(rand.NewSource(29))
	for range 400 {
		checkAll(t, randomGazettes(r))
	}
}

// P29.4

// TestIntervals expects the same amendments in force on all days of an interval, and others on the next one for some purpose.
func TestIntervals(t *testing.T) {
	r := rand.New(rand.NewSource(30))
	several := 0
	for range 400 {
		l := randomGazettes(r)
		b := append(inforce.Breakpoints(l...), api.Forever)
		if len(b) > 4 {
			several++
		}
		for i, first := range b[:len(b)-1] {
			changed := i == 0
			for _, purpose := range append(inforce.Purposes(l...), "", "unknown") {
				want := inforce.On(first, purpose, l...)
				for _, day := range []int{first + 1, (first + b[i+1]) / 2, b[i+1] - 2, b[i+1] - 1} {
					if day >= first && day < b[i+1] && !same(inforce.On(day, purpose, l...), want) {
						t.Fatal(about(l), first, day)
					}
				}
				changed = changed || !same(inforce.On(first-1, purpose, l...), want)
			}
			if !changed {
				t.Fatal(about(l), first)
			}
		}
	}
	if several < 50 {
		t.Error("few intervals:", several)
	}
}

// TestEveryPurpose expects what is in force for the empty purpose for every one.
func TestEveryPurpose(t *testing.T) {
	r := rand.New(rand.NewSource(31))
	for range 400 {
		l := randomGazettes(r)
		for _, day := range inforce.Breakpoints(l...) {
			none := inforce.On(day, "", l...)
			for _, purpose := range []string{"tax", "trade", "unknown"} {
				got := inforce.On(day, purpose, l...)
				if len(got) < len(none) || purpose == "unknown" && !same(got, none) {
					t.Fatal(about(l), day, purpose)
				}
				shared := slices.DeleteFunc(got, func(d api.EnactedItem) bool { return d.It.For != "" })
				if !same(shared, none) {
					t.Fatal(about(l), day, purpose, places(shared), places(none))
				}
			}
		}
	}
}

// TestEveryAmendment expects that a pending amendment is never in force, and every other one on exactly its days for its own purpose.
func TestEveryAmendment(t *testing.T) {
	r := rand.New(rand.NewSource(32))
	counts := map[bool]int{}
	for range 400 {
		l := randomGazettes(r)
		pending := inforce.Pending(l...)
		for _, d := range modelOf(l).amendments {
			isPending := slices.Contains(pending, api.ItemRef{Act: d.Act, Item: d.Item})
			counts[isPending]++
			days, seen := inforce.Days(d.Act, d.Item, l...), 0
			for _, day := range inforce.Breakpoints(l...) {
				isOn := slices.ContainsFunc(inforce.On(day, d.It.For, l...), func(x api.EnactedItem) bool { return x.Act == d.Act && x.Item == d.Item })
				if isOn != dateset.Contains(days, day) {
					t.Fatal(about(l), d.Act, d.Item, day)
				}
				if isOn {
					seen++
				}
			}
			if isPending != (seen == 0) || isPending != (len(days) == 0) || !dateset.Valid(days...) {
				t.Fatal(about(l), d.Act, d.Item)
			}
		}
	}
	if counts[true] < 300 || counts[false] < 300 {
		t.Error(counts)
	}
}
