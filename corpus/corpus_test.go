package corpus_test

import (
	"math"
	"math/rand"
	"slices"
	"strings"
	"testing"

	"pandect/api"
	"pandect/corpus"
)

// P28.1: Compare

func TestCompare(t *testing.T) {
	d := func(day, act, item int) api.EnactedItem { return api.EnactedItem{Day: day, Act: act, Item: item} }
	for _, c := range []struct {
		a, b api.EnactedItem
		want int
	}{
		{d(5, 2, 3), d(6, 2, 3), -1}, {d(5, 2, 3), d(5, 3, 3), -1}, {d(5, 2, 3), d(5, 2, 4), -1}, {d(5, 2, 3), d(5, 2, 3), 0}, {d(0, 0, 0), d(0, 0, 0), 0},
		{d(5, 9, 9), d(6, 2, 3), -1}, {d(5, 2, 9), d(5, 3, 3), -1}, {d(5, 3, 1), d(6, 2, 9), -1}, {d(5, 100, 0), d(50, 1, 0), -1}, {d(5, 2, 30), d(5, 10, 4), -1}, {d(5, 2, 9), d(5, 2, 10), -1},
		{d(-5, 2, 3), d(0, 2, 3), -1}, {d(-6, 2, 3), d(-5, 2, 3), -1}, {d(5, -1, 3), d(5, 0, 3), -1}, {d(5, 2, -1), d(5, 2, 0), -1},
		{d(math.MinInt, 2, 3), d(math.MaxInt, 2, 3), -1}, {d(5, math.MinInt, 3), d(5, math.MaxInt, 3), -1}, {d(5, 2, math.MinInt), d(5, 2, math.MaxInt), -1}, {d(0, 0, 0), d(0, 1<<32, 0), -1}, {d(0, 0, 0), d(1<<33, 0, 0), -1},
	} {
		if x, y := corpus.Compare(c.a, c.b), corpus.Compare(c.b, c.a); x != c.want || y != -c.want {
			t.Error(c, x, y)
		}
	}
	a, b := d(5, 2, 3), d(5, 2, 3) // the instructions do not matter
	a.It, b.It = item("repeal section 3"), api.Item{Kind: api.Heading, Day: 9, Act: 9, Item: 9}
	if corpus.Compare(a, b) != 0 || corpus.Compare(b, a) != 0 {
		t.Error("equal positions")
	}
}

func TestCompareAll(t *testing.T) {
	numbers := []int{math.MinInt, -1, 0, 1, 2, 10, math.MaxInt}
	var l []api.EnactedItem
	for _, day := range numbers {
		for _, act := range numbers {
			for _, item := range numbers {
				l = append(l, api.EnactedItem{Act: act, Item: item, Day: day})
			}
		}
	}
	for i, a := range l { // which are in legal order
		for k, b := range l {
			want := 0
			if i < k {
				want = -1
			}
			if i > k {
				want = 1
			}
			if corpus.Compare(a, b) != want {
				t.Fatal(a, b, corpus.Compare(a, b))
			}
		}
	}
}

// P28.1: acts that count, and their items

func TestExample(t *testing.T) {
	two, one := enacted(2, 5, "repeal section 3", "repeal section 4"), enacted(1, 9, "repeal section 5", "repeal section 6")
	expectItems(t, "2.0 on 5: repeal section 3; 2.1 on 5: repeal section 4; 1.0 on 9: repeal section 5; 1.1 on 9: repeal section 6", gazettes(one, two)...)
	three := enacted(3, 30, `correct act 1 item 0 as head section 5 as "a"`)
	expectItems(t, `2.0 on 5: repeal section 3; 2.1 on 5: repeal section 4; 1.0 on 9: head section 5 as "a"; 1.1 on 9: repeal section 6; 3.0 on 30: correct act 1 item 0 as head section 5 as "a"`, gazettes(one, two, three)...)
}

func TestNothing(t *testing.T) {
	expectItems(t, "")
	expectActs(t, "")
	expectItems(t, "", gazette(1), gazette(2))
	expectItems(t, "", gazettes(enacted(1, 5), enacted(2, 3))...)
	expectActs(t, "2 Act 2, 1 Act 1", gazettes(enacted(1, 5), enacted(2, 3))...)
	expectItems(t, "3.0 on 4: repeal section 3", gazette(1), gazette(2, enacted(1, 5), enacted(3, 4, "repeal section 3"), enacted(2, 3)), gazette(0), gazette(9, enacted(4, 4)))
	if len(corpus.Duplicates()) != 0 || len(corpus.Duplicates(gazette(1), gazette(2, enacted(1, 5)), gazette(3))) != 0 {
		t.Error("duplicates")
	}
	if _, ok := corpus.Find(0, 0); ok || corpus.KnownSince(0, 0) != 0 || corpus.PublishedBy(5) != 0 {
		t.Error("without gazettes")
	}
}

// entitled returns an act without items that has the title.
func entitled(number, day int, title string) api.Act {
	return api.Act{Number: number, Day: day, Title: title}
}

func TestDuplicates(t *testing.T) {
	one, two, three := entitled(3, 5, "one"), entitled(3, 4, "two"), entitled(3, 6, "three")
	other := entitled(2, 9, "other")
	for _, c := range []struct {
		l          []api.Gazette
		acts       string
		duplicates []int
	}{
		{[]api.Gazette{gazette(1, one, other)}, "3 one, 2 other", nil},
		{[]api.Gazette{gazette(1, one, two, other)}, "3 one, 2 other", []int{3}},                                // in one gazette
		{[]api.Gazette{gazette(1, two, other, one)}, "3 two, 2 other", []int{3}},                                // not adjacent
		{[]api.Gazette{gazette(1, one), gazette(2, other, two)}, "3 one, 2 other", []int{3}},                    // in two gazettes
		{[]api.Gazette{gazette(1, two), gazette(2), gazette(3, other, one)}, "3 two, 2 other", []int{3}},        // with one in between
		{[]api.Gazette{gazette(9, three), gazette(2, one)}, "3 three", []int{3}},                                // the order of the list decides, not the day
		{[]api.Gazette{gazette(1, one), gazette(2, other, two), gazette(3, three)}, "3 one, 2 other", []int{3}}, // three times
		{[]api.Gazette{gazette(1, one, two, three)}, "3 one", []int{3}},                                         // three times in one gazette
		{[]api.Gazette{gazette(1, three), gazette(1, two, two), gazette(2, one)}, "3 three", []int{3}},          // and four times
		{[]api.Gazette{gazette(1, other, one), gazette(2, two, other)}, "3 one, 2 other", []int{2, 3}},          // two numbers
		{[]api.Gazette{gazette(1, one, one, one), gazette(2, other, other)}, "3 one, 2 other", []int{2, 3}},     // equal acts
		{[]api.Gazette{gazette(1, entitled(10, 1, "x"), entitled(9, 1, "y"), entitled(-1, 1, "z"), entitled(0, 1, "n")), gazette(2, entitled(-1, 0, "w"), entitled(10, 1, "v"), entitled(0, 0, "u"), entitled(9, 0, "t"))}, "-1 z, 0 n, 9 y, 10 x", []int{-1, 0, 9, 10}},
		{[]api.Gazette{gazette(1, entitled(100, 1, "x"), entitled(20, 1, "y"), entitled(3, 1, "z")), gazette(2, entitled(100, 1, "x"), entitled(3, 1, "z"))}, "3 z, 20 y, 100 x", []int{3, 100}},
	} {
		expectActs(t, c.acts, c.l...)
		if got := corpus.Duplicates(c.l...); !slices.Equal(got, c.duplicates) {
			t.Error(c.acts, got)
		}
	}
	first, second := enacted(3, 5, "repeal section 3"), enacted(3, 5, "repeal section 4", "repeal section 5")
	expectItems(t, "3.0 on 5: repeal section 3", gazettes(first, second)...)
	expectItems(t, "3.0 on 5: repeal section 4; 3.1 on 5: repeal section 5", gazettes(second, first)...)
	expectItems(t, "", gazettes(enacted(3, 5), second)...)
}

func TestLegalOrder(t *testing.T) {
	expectActs(t, "1 Act 1, 2 Act 2, 3 Act 3, 10 Act 10", gazette(1, enacted(10, 5), enacted(2, 5)), gazette(2, enacted(3, 5), enacted(1, 5))) // of one day
	expectActs(t, "10 Act 10, 3 Act 3, 1 Act 1, 2 Act 2", gazette(1, enacted(2, 8), enacted(1, 7)), gazette(2, enacted(3, 6), enacted(10, 5)))
	expectActs(t, "4 Act 4, 3 Act 3, 9 Act 9, 1 Act 1", gazettes(enacted(9, 0), enacted(1, 0+1), enacted(3, -1), enacted(4, -10))...) // days below 0
	expectActs(t, "-2 Act -2, -1 Act -1, 0 Act 0", gazettes(enacted(0, 4), enacted(-1, 4), enacted(-2, 4))...)
	expectActs(t, "5 Act 5, 4 Act 4, 6 Act 6", gazettes(enacted(6, math.MaxInt), enacted(4, 100), enacted(5, math.MinInt))...)
	dozen := slices.Repeat([]string{"repeal section 3"}, 12)
	got := corpus.EnactedItems(gazettes(enacted(7, 5, dozen...), enacted(2, 5, dozen...), enacted(9, 4, dozen...))...)
	for i, d := range got {
		if want := []int{9, 2, 7}[i/12]; d.Act != want || d.Item != i%12 || len(got) != 36 {
			t.Error(i, d)
		}
	}
}

// TestActsAreNotCorrected expects the acts with everything that was published, corrections or not.
func TestActsAreNotCorrected(t *testing.T) {
	one, two := enacted(1, 5, "repeal section 3", "happen peace on day 8"), enacted(2, 6, "correct act 1 item 0 as repeal section 4")
	one.Start, two.Start = api.Start{Kind: api.OnEvent, Event: "peace"}, api.Start{Kind: 9, Day: -9, Event: "War"}
	one.Title = ""
	got := corpus.Acts(gazettes(two, one)...)
	if !same(got, []api.Act{one, two}) {
		t.Error(got)
	}
}

// P28.1: corrections

// instructions returns the text of an instruction of each kind.
func instructions() []string {
	return []string{
		"into all last insert \"section 9: a | b c\n  paragraph 1 | d\n\" read for trade by order", "repeal section 3 from day 7", `in section 3 for "a b" put "c d" each read for tax`, `in section 3 behind "a" put "b" at 2 on event peace`, `head section 3 as "e f"`, "number section 3 as 4", "move section 3 into part 2 last",
		"commence act 1 from day 9", "expire act 1 item 0 from day 9", "revive act 1 item 0 from day 9", "happen peace on day 9", "correct act 1 item 1 as repeal section 8",
	}
}

// TestCorrectedKinds corrects an item of each kind by an item of each kind.
func TestCorrectedKinds(t *testing.T) {
	for kind, text := range instructions() {
		for byKind, by := range instructions() {
			one, two := enacted(1, 5, text, "happen union on day 3"), enacted(2, 6, "correct act 1 item 0 as repeal section 3", "repeal section 7")
			two.Items[0].By[0] = item(by)
			l := gazettes(one, two)
			want := text
			if kind <= api.Move && byKind <= api.Move {
				want = by
			}
			d, ok := corpus.Find(1, 0, l...)
			if !ok || !same(d, api.EnactedItem{Act: 1, Day: 5, It: item(want)}) {
				t.Error(text, by, d)
			}
			checkAll(t, l)
			two.Items[0].By = append(two.Items[0].By, item("repeal section 4"), item("repeal section 5")) // only the first one counts
			if d, ok := corpus.Find(1, 0, l...); !ok || !same(d.It, item(want)) {
				t.Error(text, by, d)
			}
			checkAll(t, l)
		}
	}
}

// TestUnknownKinds corrects items of undefined kinds, and by items of undefined kinds.
func TestUnknownKinds(t *testing.T) {
	for _, kind := range []int{math.MinInt, -1, 12, 13, math.MaxInt} {
		one, two := enacted(1, 5, "repeal section 3"), enacted(2, 6, "correct act 1 item 0 as repeal section 4")
		one.Items[0].Kind = kind
		expectFound(t, 1, 0, one.Items[0], gazettes(one, two)...)
		one.Items[0].Kind, two.Items[0].By[0].Kind = api.Repeal, kind
		expectFound(t, 1, 0, one.Items[0], gazettes(one, two)...)
		two.Items[0].By = append(two.Items[0].By, item("repeal section 5"))
		expectFound(t, 1, 0, one.Items[0], gazettes(one, two)...)
		two.Items[0].By[0], two.Items[0].Kind = item("repeal section 4"), kind
		expectFound(t, 1, 0, one.Items[0], gazettes(one, two)...)
	}
}

// expectFound expects an item and what it is, as corrected.
func expectFound(t *testing.T, act, index int, want api.Item, l ...api.Gazette) {
	t.Helper()
	d, ok := corpus.Find(act, index, l...)
	if !ok || d.Act != act || d.Item != index || !same(d.It, want) {
		t.Errorf("%v: %v", texts([]api.EnactedItem{d}), ok)
	}
	checkAll(t, l)
}

func TestBy(t *testing.T) {
	one, two := enacted(1, 5, "repeal section 3"), enacted(2, 6, "correct act 1 item 0 as repeal section 4")
	for _, c := range []struct {
		by   []api.Item
		want string
	}{
		{nil, "repeal section 3"},
		{[]api.Item{}, "repeal section 3"},
		{[]api.Item{item("repeal section 5")}, "repeal section 5"},
		{[]api.Item{item("repeal section 5"), item("repeal section 6")}, "repeal section 5"},
		{[]api.Item{item("repeal section 5"), item("happen peace on day 4")}, "repeal section 5"},
		{[]api.Item{item("happen peace on day 4"), item("repeal section 5")}, "repeal section 3"},
		{[]api.Item{item("correct act 1 item 0 as repeal section 7"), item("repeal section 5")}, "repeal section 3"},
		{[]api.Item{item("commence act 1 from day 4")}, "repeal section 3"},
	} {
		two.Items[0].By = c.by
		expectFound(t, 1, 0, item(c.want), gazettes(one, two)...)
	}
	two.Items[0].By = []api.Item{{Kind: api.ReplaceWords, Where: -9, Nth: -9, Label: "?", Act: 8}} // which is not valid
	expectFound(t, 1, 0, two.Items[0].By[0], gazettes(one, two)...)
	two.Items[0].By = []api.Item{{}}
	expectFound(t, 1, 0, api.Item{}, gazettes(one, two)...)
}

// TestStartAndPurpose expects the Start and the For of the replacement, not of the item, and the day of the item.
func TestStartAndPurpose(t *testing.T) {
	for _, c := range []struct{ was, by string }{
		{"repeal section 3 read for tax from day 9", "repeal section 4"},
		{"repeal section 3", "repeal section 4 read for tax from day 9"},
		{"repeal section 3 read for tax by order", "repeal section 3 read for trade on event peace"},
		{"repeal section 3 from day 9", "repeal section 3 from day 10"},
	} {
		one, two := enacted(1, 5, c.was), enacted(2, 6, "correct act 1 item 0 as "+c.by)
		d, _ := corpus.Find(1, 0, gazettes(one, two)...)
		want := item(c.by)
		if d.It.Start != want.Start || d.It.For != want.For || d.Day != 5 || !same(d.It, want) {
			t.Error(c, d)
		}
		checkAll(t, gazettes(one, two))
	}
}

func TestSeveralCorrections(t *testing.T) {
	one := enacted(1, 5, "repeal section 3", "repeal section 33")
	by := func(label string) string { return "correct act 1 item 0 as repeal section " + label }
	for _, c := range []struct {
		want string
		acts []api.Act
	}{
		{"4", []api.Act{enacted(2, 6, by("4"))}},
		{"5", []api.Act{enacted(2, 6, by("4")), enacted(3, 7, by("5"))}}, // on different days
		{"4", []api.Act{enacted(2, 7, by("4")), enacted(3, 6, by("5"))}},
		{"5", []api.Act{enacted(3, 6, by("4")), enacted(2, 7, by("5"))}},
		{"4", []api.Act{enacted(3, 7, by("4")), enacted(2, 6, by("5"))}},
		{"5", []api.Act{enacted(2, 6, by("4")), enacted(3, 6, by("5"))}}, // on one day
		{"4", []api.Act{enacted(3, 6, by("4")), enacted(2, 6, by("5"))}},
		{"5", []api.Act{enacted(9, 6, by("4")), enacted(10, 6, by("5"))}},
		{"5", []api.Act{enacted(2, 6, by("4"), by("5"))}}, // within one act
		{"7", []api.Act{enacted(2, 6, by("4"), "happen peace on day 4", by("5"), by("6"), by("7"), "repeal section 8")}},
		{"5", []api.Act{enacted(2, 6, by("6")), enacted(3, 8, by("4"), by("5")), enacted(4, 7, by("7"))}},
		{"4", []api.Act{enacted(2, 4, by("4"))}}, // with an earlier day than the corrected act
		{"4", []api.Act{enacted(2, -4, by("4"))}},
		{"5", []api.Act{enacted(2, 4, by("4")), enacted(3, 3, by("6")), enacted(0, 4, by("7")), enacted(4, 6, by("5"))}},
		{"4", []api.Act{enacted(2, 6, by("4")), enacted(3, 7, "correct act 1 item 1 as repeal section 5")}}, // of another item
		{"3", []api.Act{enacted(2, 6, "correct act 1 item 1 as repeal section 5")}},
		{"3", []api.Act{enacted(2, 6, "correct act 3 item 0 as repeal section 5")}},  // of an act that does not exist
		{"3", []api.Act{enacted(2, 6, "correct act 1 item 31 as repeal section 5")}}, // of an item that does not exist
		{"3", []api.Act{enacted(2, 6, by("3"))}},                                     // by the same
	} {
		for _, l := range [][]api.Gazette{
			gazettes(append([]api.Act{one}, c.acts...)...),
			gazettes(append(slices.Clone(c.acts), one)...), // the corrected act is published last
			{gazette(1, append([]api.Act{one}, c.acts...)...)},
			{gazette(9, append(slices.Clone(c.acts), one)...)},
		} {
			expectFound(t, 1, 0, item("repeal section "+c.want), l...)
		}
	}
}

// TestLastCorrection expects that the last correction is sought among the corrections, not among all items that refer to the corrected one.
func TestLastCorrection(t *testing.T) {
	one := enacted(1, 5, "repeal section 3")
	two := enacted(2, 6, "correct act 1 item 0 as repeal section 4", "correct act 1 item 0 as repeal section 5", "correct act 1 item 0 as repeal section 6", "expire act 1 item 0 from day 40")
	two.Items[1].By = nil
	two.Items[2].By = []api.Item{item("happen peace on day 3")}
	expectFound(t, 1, 0, item("repeal section 4"), gazettes(one, two)...)
}

// TestOwnCorrections looks at acts that correct items of their own.
func TestOwnCorrections(t *testing.T) {
	expectItems(t, "1.0 on 5: repeal section 4; 1.1 on 5: correct act 1 item 0 as repeal section 4", gazettes(enacted(1, 5, "repeal section 3", "correct act 1 item 0 as repeal section 4"))...)
	expectItems(t, "1.0 on 5: correct act 1 item 1 as repeal section 4; 1.1 on 5: repeal section 4", gazettes(enacted(1, 5, "correct act 1 item 1 as repeal section 4", "repeal section 3"))...)
	expectItems(t, "1.0 on 5: correct act 1 item 0 as repeal section 4", gazettes(enacted(1, 5, "correct act 1 item 0 as repeal section 4"))...)
}

// TestCorrectionsOfCorrections expects that corrections are not corrected.
func TestCorrectionsOfCorrections(t *testing.T) {
	one, two, three := enacted(1, 5, "repeal section 3"), enacted(2, 6, "correct act 1 item 0 as repeal section 4"), enacted(3, 7, "correct act 2 item 0 as repeal section 5")
	want := "1.0 on 5: repeal section 4; 2.0 on 6: correct act 1 item 0 as repeal section 4; 3.0 on 7: correct act 2 item 0 as repeal section 5"
	expectItems(t, want, gazettes(one, two, three)...)
	expectItems(t, want, gazettes(three, two, one)...)
	nested := enacted(3, 7, "correct act 2 item 0 as repeal section 5") // a replacement that is a correction itself
	nested.Items[0].By[0] = item("correct act 1 item 0 as repeal section 6")
	expectFound(t, 1, 0, item("repeal section 4"), gazettes(one, two, nested)...)
}

// TestCorrectionsInDuplicates expects that duplicates correct nothing, and are not corrected.
func TestCorrectionsInDuplicates(t *testing.T) {
	one, two := enacted(1, 5, "repeal section 3"), enacted(2, 6, "repeal section 9")
	again := enacted(2, 7, "correct act 1 item 0 as repeal section 4")
	expectItems(t, "1.0 on 5: repeal section 3; 2.0 on 6: repeal section 9", gazettes(one, two, again)...)
	expectItems(t, "1.0 on 5: repeal section 4; 2.0 on 7: correct act 1 item 0 as repeal section 4", gazettes(one, again, two)...)
	expectItems(t, "1.0 on 5: repeal section 3; 2.0 on 6: repeal section 9", gazette(1, two, again), gazette(2, one))
	three := enacted(3, 8, "correct act 2 item 0 as repeal section 5", "correct act 2 item 1 as repeal section 6")
	longer := enacted(2, 4, "repeal section 7", "repeal section 8")
	expectItems(t, "1.0 on 5: repeal section 3; 2.0 on 6: repeal section 5; 3.0 on 8: correct act 2 item 0 as repeal section 5; 3.1 on 8: correct act 2 item 1 as repeal section 6", gazettes(one, two, longer, three)...)
	expectItems(t, "2.0 on 4: repeal section 5; 2.1 on 4: repeal section 6; 1.0 on 5: repeal section 3; 3.0 on 8: correct act 2 item 0 as repeal section 5; 3.1 on 8: correct act 2 item 1 as repeal section 6", gazettes(one, longer, two, three)...)
}

// TestNegativeReferences looks at corrections that refer to no index, and at acts with numbers below 1.
func TestNegativeReferences(t *testing.T) {
	one, two := enacted(-1, 5, "repeal section 3", "repeal section 4"), enacted(2, 6, "correct act 1 item 0 as repeal section 5", "correct act 1 item 0 as repeal section 6")
	two.Items[0].Act, two.Items[0].Item = -1, -1 // which does not refer to all items of the act
	two.Items[1].Act = -1
	l := gazettes(one, two)
	expectFound(t, -1, 0, item("repeal section 6"), l...)
	expectFound(t, -1, 1, item("repeal section 4"), l...)
	if _, ok := corpus.Find(-1, -1, l...); ok || corpus.KnownSince(-1, -1, l...) != 0 {
		t.Error("an item with a negative index")
	}
}

// P28.1: PublishedBy

func TestPublishedBy(t *testing.T) {
	dates := func(l ...int) []api.Gazette {
		var out []api.Gazette
		for _, day := range l {
			out = append(out, gazette(day))
		}
		return out
	}
	for _, c := range []struct {
		days []api.Gazette
		want map[int]int
	}{
		{dates(), map[int]int{math.MinInt: 0, -1: 0, 0: 0, 5: 0, math.MaxInt: 0}},
		{dates(5), map[int]int{math.MinInt: 0, -5: 0, 0: 0, 4: 0, 5: 1, 6: 1, math.MaxInt: 1}},
		{dates(5, 5, 9, 20), map[int]int{4: 0, 5: 2, 6: 2, 8: 2, 9: 3, 10: 3, 19: 3, 20: 4, 21: 4, api.MaxDay: 4, math.MaxInt: 4}},
		{dates(5, 20, 9, 7), map[int]int{4: 0, 5: 1, 7: 1, 9: 1, 19: 1, 20: 4, 30: 4}}, // not in the order of their days
		{dates(20, 5, 30, 4), map[int]int{4: 0, 5: 0, 19: 0, 20: 2, 29: 2, 30: 4}},
		{dates(-5, -3, 0), map[int]int{-6: 0, -5: 1, -4: 1, -3: 2, -1: 2, 0: 3}},
		{dates(math.MinInt, math.MaxInt, math.MinInt), map[int]int{math.MinInt: 1, 0: 1, math.MaxInt - 1: 1, math.MaxInt: 3}},
	} {
		for day, want := range c.want {
			if got := corpus.PublishedBy(day, c.days...); got != want {
				t.Error(c.days, day, got)
			}
		}
		checkAll(t, c.days)
	}
	l := []api.Gazette{{Number: 50, Day: 3, Acts: []api.Act{enacted(9, 30)}}, {Number: 1, Day: 4}} // the days of acts do not matter
	if n := corpus.PublishedBy(3, l...); n != 1 {
		t.Error(n)
	}
}

// P28.1: Find and KnownSince

func TestFind(t *testing.T) {
	l := gazettes(enacted(3, 5, "repeal section 3", "happen peace on day 9"), enacted(1, 9), enacted(-2, -4, "repeal section 4"), enacted(3, 4, "repeal section 5", "repeal section 6", "repeal section 7"))
	for _, c := range []struct {
		act, item, since int
		want             string
	}{
		{3, 0, 1, "3.0 on 5: repeal section 3"}, {3, 1, 1, "3.1 on 5: happen peace on day 9"}, {-2, 0, 3, "-2.0 on -4: repeal section 4"},
		{3, 2, 0, ""}, {3, -1, 0, ""}, {1, 0, 0, ""}, {1, -1, 0, ""}, {2, 0, 0, ""}, {0, 0, 0, ""}, {-2, 1, 0, ""}, {-2, -1, 0, ""}, {-3, 0, 0, ""}, {7, 0, 0, ""}, {math.MinInt, math.MinInt, 0, ""}, {3, math.MaxInt, 0, ""}, {math.MaxInt, 0, 0, ""}, {3, math.MinInt, 0, ""},
	} {
		d, ok := corpus.Find(c.act, c.item, l...)
		if ok != (c.want != "") || ok && texts([]api.EnactedItem{d}) != c.want || !ok && !same(d, api.EnactedItem{}) {
			t.Error(c, d, ok)
		}
		if k := corpus.KnownSince(c.act, c.item, l...); k != c.since {
			t.Error(c, k)
		}
		checkItem(t, c.act, c.item, l)
	}
	zero := gazettes(api.Act{Items: make([]api.Item, 1)}) // an enacted item that is the zero value
	if d, ok := corpus.Find(0, 0, zero...); !ok || !same(d, api.EnactedItem{}) || corpus.KnownSince(0, 0, zero...) != 1 {
		t.Error(d, ok)
	}
}

func TestKnownSince(t *testing.T) {
	one, other := enacted(1, 5, "repeal section 3", "repeal section 33"), enacted(2, 5, "repeal section 3")
	by := func(number, day int, label string) api.Act {
		return enacted(number, day, "correct act 1 item 0 as repeal section "+label)
	}
	for i, c := range []struct {
		acts []api.Act
		want int
	}{
		{[]api.Act{one}, 1},
		{[]api.Act{other, one}, 2},
		{[]api.Act{other, one, enacted(3, 6, "repeal section 4"), enacted(4, 6)}, 2}, // left alone by later gazettes
		{[]api.Act{one, by(3, 6, "4")}, 2},
		{[]api.Act{one, other, by(3, 6, "4"), enacted(4, 6)}, 3},
		{[]api.Act{one, by(3, 6, "4"), by(4, 7, "5")}, 3},
		{[]api.Act{one, by(3, 6, "4"), by(4, 7, "3")}, 1}, // corrected back
		{[]api.Act{one, by(3, 6, "4"), by(4, 7, "5"), by(5, 8, "4")}, 2},
		{[]api.Act{other, one, by(3, 6, "4"), by(4, 7, "3"), by(5, 8, "4"), by(6, 9, "3")}, 2},
		{[]api.Act{one, by(3, 6, "4"), by(4, 4, "5")}, 2},                                                  // by an earlier correction, which changes nothing
		{[]api.Act{by(3, 6, "4"), one}, 2},                                                                 // corrected before it is published
		{[]api.Act{by(3, 6, "4"), one, by(4, 5, "5")}, 2},                                                  //
		{[]api.Act{by(3, 6, "4"), one, by(4, 7, "5")}, 3},                                                  //
		{[]api.Act{one, by(3, 6, "3")}, 1},                                                                 // by the same
		{[]api.Act{one, by(3, 6, "4"), by(3, 8, "5")}, 2},                                                  // in a duplicate
		{[]api.Act{one, enacted(1, 5, "repeal section 4")}, 1},                                             //
		{[]api.Act{one, enacted(3, 6, "correct act 1 item 1 as repeal section 4")}, 1},                     // of another item
		{[]api.Act{one, enacted(3, 6, "correct act 1 item 0 as repeal section 3 read for tax")}, 2},        // with another purpose
		{[]api.Act{one, enacted(3, 6, "correct act 1 item 0 as repeal section 3 from day 50")}, 2},         // with another start
		{[]api.Act{one, enacted(3, 6, "expire act 1 item 0 from day 9", "commence act 1 from day 10")}, 1}, // orders leave the instruction as it is
	} {
		l := gazettes(c.acts...)
		if got := corpus.KnownSince(1, 0, l...); got != c.want {
			t.Error(i, got)
		}
		checkAll(t, l)
	}
	l := []api.Gazette{gazette(1), gazette(1, by(3, 6, "4"), one, by(4, 7, "3")), gazette(0), gazette(2, by(5, 8, "4")), gazette(3, by(6, 8, "3"), by(7, 8, "4"))}
	if got := corpus.KnownSince(1, 0, l...); got != 4 { // what a gazette corrects and corrects back was never so
		t.Error(got)
	}
	checkAll(t, l)
}

// Random gazettes

// randomItem returns an instruction, often a correction.
func randomItem(r *rand.Rand) api.Item {
	l := instructions()
	it := item(l[r.Intn(len(l))])
	if r.Intn(2) == 0 {
		it = api.Item{Kind: api.Correct, Act: r.Intn(6), Item: r.Intn(4) - 1}
		for range r.Intn(4) {
			it.By = append(it.By, item(l[r.Intn(len(l))]))
		}
	}
	if r.Intn(9) == 0 {
		it.Kind = r.Intn(16) - 2
	}
	return it
}

// randomGazettes returns up to eight gazettes. The numbers of acts may be those of other acts, unless they are to be distinct.
func randomGazettes(r *rand.Rand, distinct bool) []api.Gazette {
	var l []api.Gazette
	for range r.Intn(9) {
		g := gazette(r.Intn(12) - 2)
		for range r.Intn(4) {
			a := api.Act{Number: r.Intn(6) - 1, Title: strings.Repeat("t", r.Intn(5)), Day: r.Intn(5) - 1, Start: api.Start{Kind: r.Intn(6) - 1, Day: r.Intn(9)}}
			for range r.Intn(4) {
				a.Items = append(a.Items, randomItem(r))
			}
			g.Acts = append(g.Acts, a)
		}
		l = append(l, g)
	}
	if distinct {
		number(r, l)
	}
	return l
}

// number gives the acts distinct numbers.
func number(r *rand.Rand, l []api.Gazette) {
	count := 0
	for _, g := range l {
		count += len(g.Acts)
	}
	numbers := r.Perm(count)
	for _, g := range l {
		for i := range g.Acts {
			g.Acts[i].Number, numbers = numbers[0], numbers[1:]
		}
	}
}

func TestRandomGazettes(t *testing.T) {
	r := rand.New(rand.NewSource(1))
	for i := range 300 {
		checkAll(t, randomGazettes(r, i%2 == 0))
	}
}

// P28.2

func TestAppending(t *testing.T) {
	r := rand.New(rand.NewSource(2))
	for i := range 300 {
		l := randomGazettes(r, i%3 == 0)
		for k := range l {
			before, after := corpus.Acts(l[:k]...), corpus.Acts(l[:k+1]...)
			kept := slices.DeleteFunc(after, func(a api.Act) bool {
				return !slices.ContainsFunc(before, func(b api.Act) bool { return a.Number == b.Number })
			})
			if !same(kept, before) {
				t.Fatal(before, kept)
			}
			for _, d := range corpus.EnactedItems(l[:k]...) {
				if x, ok := corpus.Find(d.Act, d.Item, l...); !ok || corpus.Compare(d, x) != 0 {
					t.Fatal(d, x)
				}
			}
		}
	}
}

// P28.3

func TestOrderOfGazettes(t *testing.T) {
	r := rand.New(rand.NewSource(3))
	corrected := 0
	for range 200 {
		l := randomGazettes(r, true)
		want, acts := corpus.EnactedItems(l...), corpus.Acts(l...)
		if !same(want, published(l)) {
			corrected++
		}
		for range 5 {
			r.Shuffle(len(l), func(i, k int) { l[i], l[k] = l[k], l[i] })
			for _, g := range l {
				r.Shuffle(len(g.Acts), func(i, k int) { g.Acts[i], g.Acts[k] = g.Acts[k], g.Acts[i] })
			}
			if !same(corpus.EnactedItems(l...), want) || !same(corpus.Acts(l...), acts) || len(corpus.Duplicates(l...)) != 0 {
				t.Fatalf("%v", l)
			}
		}
	}
	if corrected < 20 {
		t.Error("few corrections:", corrected)
	}
}
