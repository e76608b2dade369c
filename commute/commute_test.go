package commute_test

import (
	"fmt"
	"slices"
	"strings"
	"testing"

	"pandect/api"
	"pandect/commute"
	"pandect/enact"
	"pandect/footprint"
	"pandect/plaintext"
	"pandect/syntax"
	"pandect/token"
	"pandect/unit"
	"pandect/wording"
)

// Samples.

// bare returns the tree with that text.
func bare(lines ...string) api.Unit {
	u, _, errno := plaintext.Parse(strings.Join(lines, "\n") + "\n")
	if errno != api.OK {
		panic(fmt.Sprint(errno, lines))
	}
	return u
}

// tree returns the tree with that text, with IDs and marks.
func tree(lines ...string) api.Unit {
	u := wording.Stamp(bare(lines...), 1, 0)
	if u.Kind == api.Book {
		u.Id = api.Id{}
	}
	return u
}

// do returns the item of an act with that text.
func do(act, item int, text string) api.EnactedItem {
	it, at, errno := syntax.Parse(text)
	if errno != api.OK {
		panic(fmt.Sprint(text, at))
	}
	return api.EnactedItem{Act: act, Item: item, Day: 40, It: it}
}

// put returns the text of an instruction that inserts units at a place such as "into all last".
func put(place string, l ...string) string {
	return place + " insert " + token.Quote(strings.Join(l, "\n")+"\n")
}

// enacted returns an act with instructions of those texts.
func enacted(number int, l ...string) api.Act {
	a := api.Act{Number: number, Title: "Act", Day: 40, Start: api.Start{Kind: api.OnDay, Day: 50}}
	for _, text := range l {
		a.Items = append(a.Items, do(0, 0, text).It)
	}
	return a
}

// sample returns a book with few units.
func sample() api.Unit {
	return tree("book",
		"  part 1: one | a b a",
		"    section 1: head | a a b",
		"      paragraph 1 | a",
		"        note 1 | a b",
		"      paragraph 2",
		"    section 2 | c",
		"  section 3: h h | a b a",
		"    paragraph 3 | x",
		"    note 7: n",
		"    paragraph 4 | x",
		"  part 2 | a")
}

// copyOf returns a copy that shares nothing with u.
func copyOf(u api.Unit) api.Unit {
	u.Head, u.Words, u.Kids = slices.Clone(u.Head), slices.Clone(u.Words), slices.Clone(u.Kids)
	for i := range u.Kids {
		u.Kids[i] = copyOf(u.Kids[i])
	}
	return u
}

// copyOfItem returns a copy that shares nothing with the instruction.
func copyOfItem(it api.Item) api.Item {
	it.At, it.To, it.Unit, it.Old, it.New, it.By = slices.Clone(it.At), slices.Clone(it.To), copyOf(it.Unit), slices.Clone(it.Old), slices.Clone(it.New), slices.Clone(it.By)
	for i := range it.By {
		it.By[i] = copyOfItem(it.By[i])
	}
	return it
}

// copyOfItems returns copies that share nothing with the items.
func copyOfItems(l []api.EnactedItem) []api.EnactedItem {
	l = slices.Clone(l)
	for i := range l {
		l[i].It = copyOfItem(l[i].It)
	}
	return l
}

// about returns the texts of items, which need not be valid.
func about(l ...api.EnactedItem) string {
	var out []string
	for _, d := range l {
		text, errno := syntax.Format(d.It)
		if errno != api.OK {
			text = fmt.Sprintf("%.300s", fmt.Sprintf("%+v", d.It))
		}
		out = append(out, fmt.Sprintf("%d %d: %s", d.Act, d.Item, text))
	}
	return strings.Join(out, "; ")
}

// sameItems reports whether the items are the same in all fields.
func sameItems(a, b []api.EnactedItem) bool {
	return slices.EqualFunc(a, b, func(x, y api.EnactedItem) bool {
		return x.Act == y.Act && x.Item == y.Item && x.Day == y.Day && syntax.Equal(x.It, y.It)
	})
}

// The model: it does step by step what the definitions say, and applies all items anew for each step. It asks layers 23 and 25 only.

// swappable reports whether the items at the indices at and at+1, which exist, can be swapped.
func swappable(u api.Unit, l []api.EnactedItem, at int) bool {
	for _, d := range l[:at] {
		u, _ = enact.Apply(u, d)
	}
	return footprint.Independent(u, l[at], l[at+1])
}

// exchange swaps the items at the indices at and at+1.
func exchange(l []api.EnactedItem, at int) { l[at], l[at+1] = l[at+1], l[at] }

// itemsOf returns the items of an act.
func itemsOf(a api.Act) []api.EnactedItem {
	var out []api.EnactedItem
	for i, it := range a.Items {
		out = append(out, api.EnactedItem{Act: a.Number, Item: i, Day: a.Day, It: it})
	}
	return out
}

// separable moves the items of b in front of those of a. It returns the number of the swap that is refused, from 1 on, or 0.
func separable(u api.Unit, a, b api.Act) int {
	l := append(itemsOf(a), itemsOf(b)...)
	n := 0
	for i := range b.Items {
		for at := len(a.Items) + i; at > i; at-- {
			n++
			if !swappable(u, l, at-1) {
				return n
			}
			exchange(l, at-1)
		}
	}
	if !sameItems(l, append(itemsOf(b), itemsOf(a)...)) {
		panic("the model does not put the items of b first")
	}
	return 0
}

// firstSwap returns the index of the first pair that the procedure of sorting swaps, or -1.
func firstSwap(u api.Unit, l []api.EnactedItem) int {
	for at := 0; at+1 < len(l); at++ {
		x, y := l[at], l[at+1]
		if (y.Act < x.Act || y.Act == x.Act && y.Item < x.Item) && swappable(u, l, at) {
			return at
		}
	}
	return -1
}

// sorted returns the sorted sequence, and the number of swaps.
func sorted(u api.Unit, l []api.EnactedItem) ([]api.EnactedItem, int) {
	l = copyOfItems(l)
	n := 0
	for at := firstSwap(u, l); at >= 0; at = firstSwap(u, l) {
		exchange(l, at)
		n++
	}
	return l, n
}

// P26.1

// checkPair compares Independent and Commute of two items with the model, in both orders. It returns what they report.
func checkPair(t *testing.T, u api.Unit, a, b api.EnactedItem) (independent, commutes bool) {
	t.Helper()
	independent = footprint.Independent(u, a, b)
	ab, _ := enact.ApplyAll(u, a, b)
	ba, _ := enact.ApplyAll(u, b, a)
	commutes = unit.Equal(ab, ba)
	if commute.Independent(u, a, b) != independent || commute.Independent(u, b, a) != independent {
		t.Fatalf("Independent(%s): not %v", about(a, b), independent)
	}
	if commute.Commute(u, a, b) != commutes || commute.Commute(u, b, a) != commutes {
		t.Fatalf("Commute(%s): not %v", about(a, b), commutes)
	}
	return independent, commutes
}

func TestExample(t *testing.T) {
	u := tree("book", "  section 5 | a tax")
	words, head := do(7, 0, `in section 5 for "tax" put "duty" each`), do(7, 1, `head section 5 as "x"`)
	if !commute.Independent(u, words, head) || !commute.Commute(u, words, head) {
		t.Error("words and heading")
	}
	six, seven := do(7, 0, put("behind section 5", "section 6")), do(8, 0, put("behind section 5", "section 7"))
	if commute.Independent(u, six, seven) || commute.Commute(u, six, seven) {
		t.Error("two Inserts")
	}
}

func TestPairs(t *testing.T) {
	u := sample()
	for _, c := range []struct {
		a, b                  string
		independent, commutes bool
	}{
		{`in section 3 for "a" put "c" each`, `head section 3 as "x"`, true, true},
		{"repeal section 1", "repeal section 3", true, true},
		{"number paragraph 1 as 8", `in section 3 for "a" put "c" each`, true, true},
		{put("into section 3 last", "paragraph 8"), put("into section 2 last", "paragraph 9"), true, true},
		{"move section 2 into part 2 first", `head section 3 as "x"`, true, true},
		// They are not independent, and do not commute.
		{`head section 3 as "x"`, `head section 3 as "x"`, false, false}, // the marks tell which was the last
		{`in section 3 for "a" put "b" each`, `in section 3 for "b" put "a" each`, false, false},
		{"number section 3 as 4", `head section 3 as "x"`, false, false},
		{"number section 3 as 4", `head section 4 as "x"`, false, false},
		{"repeal section 3", `move paragraph 4 into section 2 first`, false, false},
		{put("into all first", "section 8"), put("into all first", "section 9"), false, false},
		{put("into all last", "section 8"), "repeal section 8", false, false},
		{"move section 2 behind part 1", "move section 2 into part 2 first", false, false},
		// They are not independent, but commute.
		{"repeal section 3", "repeal section 3", false, true},
		{"repeal section 1", "repeal paragraph 1", false, true},
		{"repeal part 1", "repeal section 3", false, true},
		{put("into all first", "section 8"), put("into all last", "section 9"), false, true},
		{`in section 3 for "a" put "c" each`, `in section 3 for "z" put "c" each`, false, true}, // the second one fails
		{`in section 3 for "a" put "c" each`, `in section 3 for "b" put "d" each`, false, true},
		{`head section 3 as ""`, `head section 3 as ""`, false, true},
		{`head section 3 as "x"`, "repeal section 3", false, true},
		{"number section 3 as 4", "number part 1 as 4", false, true},
		{put("into section 3 last", "paragraph 8"), put("into section 2 last", "paragraph 8"), false, true}, // names
		{"move part 1 into all last", "repeal section 3", false, true},
		// Items that fail.
		{"repeal section 77", "repeal section 3", true, true},
		{"repeal all", `head book as "x"`, true, true},
		{"repeal section 77", put("into all last", "section 77"), false, false},
		{"number paragraph 3 as 4", "repeal paragraph 4", false, false},
		// Items that are no amendments.
		{"commence act 7 from day 40", "repeal section 3", true, true},
		{"expire act 8 item 0 from day 40", `head section 3 as "x"`, true, true},
		{"happen union on day 40", "revive act 7 from day 40", true, true},
		{"correct act 8 item 0 as repeal section 3", "repeal section 3", true, true},
	} {
		independent, commutes := checkPair(t, u, do(7, 0, c.a), do(8, 0, c.b))
		if independent != c.independent || commutes != c.commutes {
			t.Errorf("%s; %s: %v %v", c.a, c.b, independent, commutes)
		}
		if independent, _ := checkPair(t, u, do(7, 0, c.a), do(7, 0, c.b)); independent {
			t.Errorf("%s; %s: the same act and item", c.a, c.b)
		}
		for _, text := range []string{c.a, c.b} { // an item and itself
			if independent, commutes := checkPair(t, u, do(7, 0, text), do(7, 0, text)); independent || !commutes {
				t.Error(text, independent, commutes)
			}
		}
	}
}

// TestInvalidItems expects that items which are not valid have no effect.
func TestInvalidItems(t *testing.T) {
	u := sample()
	d := do(8, 0, "repeal section 3")
	for i, change := range []func(it *api.Item){
		func(it *api.Item) { it.Kind = -1 },
		func(it *api.Item) { it.Kind = 12 },
		func(it *api.Item) { it.Label = "1" },
		func(it *api.Item) { it.At = append(slices.Clone(it.At), api.Step{}) },
		func(it *api.Item) { it.For = "Tax" },
		func(it *api.Item) { it.Start = api.Start{Kind: 5} },
	} {
		bad := do(7, 0, "repeal section 3")
		change(&bad.It)
		if independent, commutes := checkPair(t, u, bad, d); !independent || !commutes {
			t.Error(i, independent, commutes)
		}
		if independent, commutes := checkPair(t, u, bad, bad); independent || !commutes {
			t.Error(i, independent, commutes)
		}
	}
}

// nearlyFull returns a book with 1023 units.
func nearlyFull() api.Unit {
	u := api.Unit{}
	for i := range 30 {
		section := api.Unit{Kind: api.Section, Label: fmt.Sprint(i + 1)}
		for k := 0; k < 62 && i < 16; k++ {
			section.Kids = append(section.Kids, api.Unit{Kind: api.Para, Label: fmt.Sprint(k + 1)})
		}
		u.Kids = append(u.Kids, wording.Stamp(section, 1, i))
	}
	return u
}

// TestMaxUnits looks at independent items of which the book can only take one: they do not commute.
func TestMaxUnits(t *testing.T) {
	u := nearlyFull()
	a, b := do(7, 0, put("into section 1 last", "note 1")), do(8, 0, put("into section 2 last", "note 2"))
	if n := unit.Count(u); n != 1023 {
		t.Fatal(n)
	}
	if independent, commutes := checkPair(t, u, a, b); !independent || commutes {
		t.Error(independent, commutes)
	}
	sound, exact := commute.CommuteActs(u, api.Act{Number: 7, Items: []api.Item{a.It}}, api.Act{Number: 8, Items: []api.Item{b.It}})
	if !sound || exact {
		t.Error(sound, exact)
	}
	l := []api.EnactedItem{b, a, do(6, 0, "repeal section 30"), do(5, 0, put("into section 3 last", "note 2"))}
	want, n := sorted(u, l)
	if got := commute.Sort(u, l...); !sameItems(got, want) || n == 0 {
		t.Error(about(got...), n)
	}
}

// P26.2

// checkActs compares CommuteActs with the model. It returns what the function reports, and the number of the swap that is refused.
func checkActs(t *testing.T, u api.Unit, a, b api.Act) (sound, exact bool, refused int) {
	t.Helper()
	refused = separable(u, a, b)
	ab, _ := enact.ApplyAll(u, append(itemsOf(a), itemsOf(b)...)...)
	ba, _ := enact.ApplyAll(u, append(itemsOf(b), itemsOf(a)...)...)
	sound, exact = commute.CommuteActs(u, a, b)
	if sound != (refused == 0) || exact != unit.Equal(ab, ba) {
		t.Fatalf("CommuteActs(%s and %s): %v %v, %d", about(itemsOf(a)...), about(itemsOf(b)...), sound, exact, refused)
	}
	return sound, exact, refused
}

func TestCommuteActs(t *testing.T) {
	u := sample()
	x3, x4, w3 := `head section 3 as "x"`, `head paragraph 4 as "x"`, `in section 3 for "a" put "c" each`
	for i, c := range []struct {
		a, b    []string
		exact   bool
		refused int
	}{
		{nil, nil, true, 0},
		{nil, []string{x3, "repeal section 3"}, true, 0},
		{[]string{x3, "repeal section 3"}, nil, true, 0},
		{[]string{x3}, []string{w3}, true, 0},
		{[]string{x3}, []string{"number section 3 as 4"}, false, 1},
		{[]string{x3, w3, x4}, []string{"number section 1 as 9", "repeal section 2", `head part 1 as "z"`}, true, 0},
		{[]string{x3, x4}, []string{`head paragraph 4 as "y"`, `head part 1 as "z"`}, false, 1},                   // at the first
		{[]string{x4, x3}, []string{`head paragraph 4 as "y"`, `head part 1 as "z"`}, false, 2},                   // one later
		{[]string{x3, x4}, []string{`head part 1 as "z"`, `head paragraph 4 as "y"`}, false, 3},                   // with the second item
		{[]string{x4, x3}, []string{`head part 1 as "z"`, `head paragraph 4 as "y"`}, false, 4},                   // at the last
		{[]string{x4, x3, w3}, []string{`head part 1 as "z"`, "repeal section 2", "repeal paragraph 4"}, true, 9}, // at the last
		{[]string{x3, x4}, []string{"repeal section 3"}, true, 1},                                                 // exact only
		{[]string{"repeal section 3"}, []string{"repeal section 3"}, true, 1},
		{[]string{put("into all first", "section 8")}, []string{put("into all last", "section 9")}, true, 1},
		{[]string{"number section 3 as 4", "number section 4 as 3"}, []string{x3}, true, 1},
		{[]string{x3, `head section 3 as ""`}, []string{w3}, true, 0},
		// What the items of the same act do first matters.
		{[]string{"number section 3 as 9", "repeal section 9"}, []string{`head note 7 as "x"`}, true, 1},
		{[]string{`head note 7 as "x"`}, []string{"number section 3 as 9", "repeal section 9"}, true, 2},
		{[]string{"repeal paragraph 4", put("into section 3 last", "paragraph 4")}, []string{"repeal section 2"}, true, 0},
		{[]string{put("into section 2 last", "note 1"), `head section 2 note 1 as "x"`}, []string{`head section 3 note 7 as "y"`}, true, 0},
		{[]string{put("into section 2 last", "note 2"), `head note 2 as "x"`}, []string{`in note 2 ahead of all put "x"`}, false, 2},
		{[]string{`in note 2 ahead of all put "x"`}, []string{put("into section 2 last", "note 2"), `head note 2 as "x"`}, false, 1},
		{[]string{"repeal section 3"}, []string{"repeal section 2", "move paragraph 2 into part 1 first"}, true, 0},
		// Items that fail, and items that are no amendments.
		{[]string{"repeal section 77", "repeal all"}, []string{"repeal section 77", x3}, true, 0},
		{[]string{"commence act 8 from day 40", x3, "happen union on day 40"}, []string{"expire act 7 from day 50", w3, "correct act 7 item 1 as repeal section 3"}, true, 0},
		{[]string{"commence act 8 from day 40", x3}, []string{"expire act 7 from day 50", `head section 3 as "y"`}, false, 3},
		// Purposes and commencements do not matter.
		{[]string{`head section 3 as "x" read for tax`}, []string{`head section 3 as "y" read for fish`}, false, 1},
		{[]string{`head section 3 as "x" from day 60`}, []string{`head section 3 as "y" by order`}, false, 1},
		{[]string{`head section 3 as "x" on event union`}, []string{`in section 3 for "a" put "c" each read for fish from day 9`}, true, 0},
	} {
		sound, exact, refused := checkActs(t, u, enacted(7, c.a...), enacted(8, c.b...))
		if sound != (c.refused == 0) || exact != c.exact || refused != c.refused {
			t.Errorf("%d: %v %v, %d", i, sound, exact, refused)
		}
		other := enacted(8, c.b...) // whose other fields do not matter
		other.Title, other.Day, other.Start = "", -3, api.Start{}
		if s, e := commute.CommuteActs(u, enacted(7, c.a...), other); s != sound || e != exact {
			t.Errorf("%d: %v %v", i, s, e)
		}
		if s, e, _ := checkActs(t, u, enacted(8, c.b...), enacted(7, c.a...)); s != sound || e != exact {
			t.Errorf("%d: %v %v, the other way round", i, s, e)
		}
	}
}

// TestSameNumber looks at acts with the same number, whose items with the same index are not independent, even if they do nothing.
func TestSameNumber(t *testing.T) {
	u := sample()
	for _, c := range []struct {
		a, b    []string
		refused int
	}{
		{nil, nil, 0},
		{nil, []string{"repeal section 3"}, 0},
		{[]string{"repeal section 77"}, []string{"repeal section 77"}, 1},
		{[]string{"happen union on day 40"}, []string{"happen union on day 40"}, 1},
		{[]string{"repeal section 77", "repeal section 78"}, []string{"repeal section 79"}, 2},
		{[]string{"repeal section 77"}, []string{"repeal section 78", "repeal section 79"}, 1},
	} {
		sound, exact, refused := checkActs(t, u, enacted(7, c.a...), enacted(7, c.b...))
		if sound != (c.refused == 0) || !exact || refused != c.refused {
			t.Error(c, sound, exact, refused)
		}
		if sound, _, _ := checkActs(t, u, enacted(7, c.a...), enacted(-8, c.b...)); !sound {
			t.Error(c)
		}
	}
}

// TestKnownIDs looks at an act whose Insert fails as long as the book has a unit with the new ID, which is that of the act and the index of the item.
func TestKnownIDs(t *testing.T) {
	u := sample()
	u.Kids[1].Kids[0].Id = api.Id{Act: 7, Item: 1, N: 1} // paragraph 3
	insert, repeal := put("into section 2 last", "paragraph 9"), "repeal paragraph 3"
	for i, want := range []bool{true, false, true} {
		l := slices.Repeat([]string{"happen union on day 40"}, i)
		one, two := enacted(7, append(l, insert)...), enacted(8, repeal)
		for _, pair := range [][2]api.Act{{one, two}, {two, one}} {
			if sound, exact, _ := checkActs(t, u, pair[0], pair[1]); sound != want || exact != want {
				t.Error(i, sound, exact)
			}
		}
	}
}
