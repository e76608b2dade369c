package commute_test

import (
	"math"
	"slices"
	"strings"
	"testing"

	"pandect/api"
	"pandect/commute"
	"pandect/syntax"
	"pandect/unit"
)

// Arguments and results

// spoil overwrites everything in a tree, up to the capacities.
func spoil(u api.Unit) {
	for _, l := range [][]api.Word{u.Head[:cap(u.Head)], u.Words[:cap(u.Words)]} {
		for i := range l {
			l[i] = api.Word{Text: "spoiled", By: api.Mark{Act: -9}}
		}
	}
	kids := u.Kids[:cap(u.Kids)]
	for i := range kids {
		spoil(kids[i])
		kids[i] = api.Unit{Label: "spoiled"}
	}
}

// spoilItem overwrites everything in an instruction, up to the capacities.
func spoilItem(it api.Item) {
	for _, p := range [][]api.Step{it.At[:cap(it.At)], it.To[:cap(it.To)]} {
		for i := range p {
			p[i] = api.Step{Kind: -9}
		}
	}
	for _, l := range [][]string{it.Old[:cap(it.Old)], it.New[:cap(it.New)]} {
		for i := range l {
			l[i] = "spoiled"
		}
	}
	spoil(it.Unit)
	by := it.By[:cap(it.By)]
	for i := range by {
		spoilItem(by[i])
		by[i] = api.Item{Kind: -9}
	}
}

// spoilItems overwrites everything in a list of items, up to its capacity.
func spoilItems(l []api.EnactedItem) {
	l = l[:cap(l)]
	for i := range l {
		spoilItem(l[i].It)
		l[i] = api.EnactedItem{Act: -9}
	}
}

// roomy returns a copy of the list that has spare capacity.
func roomy[T any](l []T) []T { return append(make([]T, 0, len(l)+3), l...) }

// roomyTree returns a copy of the tree whose lists have spare capacity.
func roomyTree(u api.Unit) api.Unit {
	u.Head, u.Words, u.Kids = roomy(u.Head), roomy(u.Words), roomy(u.Kids)
	for i := range u.Kids {
		u.Kids[i] = roomyTree(u.Kids[i])
	}
	return u
}

// roomyItem returns a copy of the instruction whose lists have spare capacity.
func roomyItem(it api.Item) api.Item {
	it.At, it.To, it.Unit, it.Old, it.New, it.By = roomy(it.At), roomy(it.To), roomyTree(it.Unit), roomy(it.Old), roomy(it.New), roomy(it.By)
	for i := range it.By {
		it.By[i] = roomyItem(it.By[i])
	}
	return it
}

// roomyItems returns a copy of the items whose lists have spare capacity.
func roomyItems(l []api.EnactedItem) []api.EnactedItem {
	l = roomy(l)
	for i := range l {
		l[i].It = roomyItem(l[i].It)
	}
	return l
}

// isUnused reports whether the spare capacity of the list is unused.
func isUnused[T any](l []T, isZero func(x T) bool) bool {
	return !slices.ContainsFunc(l[len(l):cap(l)], func(x T) bool { return !isZero(x) })
}

// unused reports whether the spare capacity of all lists of the tree is unused.
func unused(u api.Unit) bool {
	isZeroWord := func(w api.Word) bool { return w == api.Word{} }
	return isUnused(u.Head, isZeroWord) && isUnused(u.Words, isZeroWord) && isUnused(u.Kids, func(x api.Unit) bool { return unit.Equal(x, api.Unit{}) }) &&
		!slices.ContainsFunc(u.Kids, func(x api.Unit) bool { return !unused(x) })
}

// unusedItem reports whether the spare capacity of all lists of the instruction is unused.
func unusedItem(it api.Item) bool {
	isZeroStep := func(s api.Step) bool { return s == api.Step{} }
	isEmpty := func(s string) bool { return s == "" }
	isZeroItem := func(it api.Item) bool { return syntax.Equal(it, api.Item{}) }
	return isUnused(it.At, isZeroStep) && isUnused(it.To, isZeroStep) && isUnused(it.Old, isEmpty) && isUnused(it.New, isEmpty) && unused(it.Unit) &&
		isUnused(it.By, isZeroItem) && !slices.ContainsFunc(it.By, func(it api.Item) bool { return !unusedItem(it) })
}

// unusedItems reports whether the spare capacity of all lists is unused.
func unusedItems(l []api.EnactedItem) bool {
	return isUnused(l, func(d api.EnactedItem) bool { return sameItems([]api.EnactedItem{d}, []api.EnactedItem{{}}) }) &&
		!slices.ContainsFunc(l, func(d api.EnactedItem) bool { return !unusedItem(d.It) })
}

// variety returns items of every kind, of which some fail, and one that is not valid but has all lists.
func variety() []api.EnactedItem {
	l := falling(put("into section 2 first", "paragraph 9: x | y z", "  paragraph 1 | w", "  note 1: v"), `head section 3 as "x y"`, "repeal paragraph 2", `in section 3 for "a" put "c d" each`, "number part 2 as 9",
		`in paragraph 4 behind "x" put "a b" at 1`, "move paragraph 3 behind section 3 paragraph 4", "correct act 3 item 1 as "+put("into all last", "section 9: a | b"), "commence act 3 from day 5", "repeal section 77", put("into all last", "section 3"))
	full := l[0]
	full.Act, full.It.By = 3, []api.Item{l[3].It, {By: []api.Item{l[0].It}}}
	full.It.To, full.It.Old, full.It.New = []api.Step{{Kind: 1}, {Kind: 2}}, []string{"o", "p"}, []string{"q", "r"}
	return copyOfItems(append(l, full))
}

// TestMemoryOfSort changes the result of Sort, up to its capacities, and looks at the arguments and at another result, then the arguments, and looks at the result.
func TestMemoryOfSort(t *testing.T) {
	for _, l := range [][]api.EnactedItem{variety(), slices.Concat(variety()[6:], variety()[:6]), variety()[:1], variety()[11:]} {
		u := roomyTree(sample())
		kept, want := copyOfItems(l), copyOfItems(commute.Sort(sample(), l...))
		items := roomyItems(l)
		one, two := commute.Sort(u, items...), commute.Sort(u, items...)
		if !sameItems(one, want) || !sameItems(two, want) {
			t.Fatal(about(one...))
		}
		spoilItems(one)
		if !unit.Equal(u, sample()) || !unused(u) || !sameItems(items, kept) || !unusedItems(items) {
			t.Fatal("shares memory with an argument")
		}
		for i := range two {
			d := two[i]
			two[i] = api.EnactedItem{}
			spoilItem(d.It)
			two[i] = want[i]
			if !sameItems(two, want) {
				t.Fatal(i, "the items of a result share memory")
			}
		}
		three := commute.Sort(u, items...)
		spoil(u)
		spoilItems(items)
		if !sameItems(three, want) {
			t.Fatal("keeps an argument, or results share memory")
		}
	}
}

// TestArgumentsAreNotModified gives the other functions lists with spare capacity, and looks at them.
func TestArgumentsAreNotModified(t *testing.T) {
	u, l, original := roomyTree(sample()), roomyItems(variety()), variety()
	a, b := api.Act{Number: 7, Title: "A", Items: []api.Item{}}, api.Act{Number: 8, Title: "B", Items: make([]api.Item, 0, 40)}
	for i, d := range l {
		if i%2 == 0 {
			a.Items = append(a.Items, d.It)
		} else {
			b.Items = append(b.Items, d.It)
		}
	}
	wantA, wantB := copyOfItems(itemsOf(a)), copyOfItems(itemsOf(b))
	for at := range l {
		commute.CanSwap(u, l, at)
		commute.Independent(u, l[at], l[0])
		commute.Commute(u, l[at], l[1])
	}
	commute.CommuteActs(u, a, b)
	commute.CommuteActs(u, a, a)
	isZeroItem := func(it api.Item) bool { return syntax.Equal(it, api.Item{}) }
	if !unit.Equal(u, sample()) || !unused(u) || !sameItems(l, original) || !unusedItems(l) {
		t.Error("an argument is modified")
	}
	if !sameItems(itemsOf(a), wantA) || !sameItems(itemsOf(b), wantB) || !isUnused(a.Items, isZeroItem) || !isUnused(b.Items, isZeroItem) || a.Number != 7 || b.Title != "B" {
		t.Error("an act is modified")
	}
}

// P1: all arguments

// oddTrees returns trees that are no books.
func oddTrees() []api.Unit {
	deep := tree("paragraph 1 | a")
	for n := range 1 << 14 {
		deep = api.Unit{Id: api.Id{Act: 9, N: n}, Kind: api.Para, Label: "1", Kids: []api.Unit{deep}}
	}
	double := sample()
	double.Kids[0].Id = double.Kids[1].Id
	return []api.Unit{deep, double, unit.Strip(sample()), {Kind: 77, Label: "x"}, {Kind: -1, Kids: []api.Unit{{}, {Kids: []api.Unit{{}}}}}, {Label: "1"}, {Kids: slices.Repeat([]api.Unit{{}}, 3000)}}
}

// TestOddTrees gives the functions trees that are no books, on which no amendment has an effect.
func TestOddTrees(t *testing.T) {
	l := variety()
	a, b := api.Act{Number: 7}, api.Act{Number: 8}
	for i, d := range l {
		a.Items = append(a.Items, d.It)
		if i < 2 {
			b.Items = append(b.Items, d.It)
		}
	}
	for i, u := range oddTrees() {
		if !commute.Independent(u, l[0], l[1]) || commute.Independent(u, l[0], l[0]) || !commute.Commute(u, l[0], l[1]) || !commute.CanSwap(u, l, 1) {
			t.Error(i)
		}
		if sound, exact := commute.CommuteActs(u, b, b); sound || !exact {
			t.Error(i, sound, exact)
		}
		if sound, exact := commute.CommuteActs(u, a, b); !sound || !exact {
			t.Error(i, sound, exact)
		}
		got := commute.Sort(u, l[8:]...)
		want := copyOfItems(l[8:])
		slices.Reverse(want)
		if !sameItems(got, want) {
			t.Error(i, about(got...))
		}
	}
}

// TestHugeArguments gives the functions long lists.
func TestHugeArguments(t *testing.T) {
	u := sample()
	huge := do(7, 0, "repeal section 3")
	huge.It.At = slices.Repeat([]api.Step{{Kind: api.Para, Label: "1"}}, 1<<16)
	huge.It.Label = strings.Repeat("1", 1<<16)
	huge.It.Unit = oddTrees()[0]
	nested := api.Item{}
	for range 1 << 14 {
		nested = api.Item{Kind: api.Correct, By: []api.Item{nested}}
	}
	last := api.EnactedItem{Act: math.MinInt, Item: math.MinInt, It: nested}
	if !commute.Independent(u, huge, last) || !commute.Commute(u, huge, last) || !commute.CanSwap(u, []api.EnactedItem{huge, last}, 0) {
		t.Error("huge items")
	}
	if got := commute.Sort(u, huge, last); !sameItems(got, []api.EnactedItem{last, huge}) {
		t.Error("huge items are not sorted")
	}
	long := slices.Repeat([]api.EnactedItem{do(7, 0, "commence act 1 from day 40")}, 1<<14)
	if got := commute.Sort(u, long...); !sameItems(got, long) || commute.CanSwap(u, long, 1000) {
		t.Error("a long list")
	}
	a, b := api.Act{Number: 1, Items: slices.Repeat([]api.Item{huge.It}, 100)}, api.Act{Number: 2, Items: slices.Repeat([]api.Item{nested}, 2)}
	if sound, exact := commute.CommuteActs(u, a, b); !sound || !exact {
		t.Error("long acts")
	}
}
