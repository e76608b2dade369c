package commute_test

import (
	"fmt"
	"math"
	"math/rand"
	"slices"
	"testing"

	"pandect/address"
	"pandect/api"
	"pandect/commute"
	"pandect/enact"
	"pandect/plaintext"
	"pandect/unit"
)

// listed returns items with those texts, each with the act and the item of a pair of numbers.
func listed(refs [][2]int, l ...string) []api.EnactedItem {
	var out []api.EnactedItem
	for i, text := range l {
		out = append(out, do(refs[i][0], refs[i][1], text))
	}
	return out
}

// falling returns items with those texts, of acts with falling numbers.
func falling(l ...string) []api.EnactedItem {
	var out []api.EnactedItem
	for i, text := range l {
		out = append(out, do(90-i, 0, text))
	}
	return out
}

// P26.3: CanSwap

// checkCanSwap compares CanSwap with the model, for all indices and those around them.
func checkCanSwap(t *testing.T, u api.Unit, l []api.EnactedItem) []bool {
	t.Helper()
	var out []bool
	for at := range len(l) - 1 {
		want := swappable(u, l, at)
		if commute.CanSwap(u, l, at) != want {
			t.Fatalf("CanSwap(%s, %d): not %v", about(l...), at, want)
		}
		out = append(out, want)
	}
	for _, at := range []int{math.MinInt, -2, -1, len(l) - 1, len(l), len(l) + 1, math.MaxInt - 1, math.MaxInt} {
		if (at < 0 || at+1 >= len(l) || at == math.MaxInt) && commute.CanSwap(u, l, at) {
			t.Fatal(about(l...), at)
		}
	}
	return out
}

func TestCanSwap(t *testing.T) {
	u := sample()
	x3, y3, w3, x4 := `head section 3 as "x"`, `head section 3 as "y"`, `in section 3 for "a" put "c" each`, `head paragraph 4 as "x"`
	for i, c := range []struct {
		l    []string
		want []bool
	}{
		{nil, nil},
		{[]string{x3}, nil},
		{[]string{x3, x4}, []bool{true}},
		{[]string{x3, y3}, []bool{false}},
		{[]string{x3, x4, y3, w3}, []bool{true, true, true}}, // adjacent ones count only
		{[]string{x3, y3, x4, w3}, []bool{false, true, true}},
		{[]string{x4, w3, x3, y3}, []bool{true, true, false}},
		// What comes before matters.
		{[]string{"number section 3 as 9", "repeal section 9", `head note 7 as "x"`}, []bool{false, false}},
		{[]string{"repeal section 3", x3, y3}, []bool{false, true}}, // both fail
		{[]string{x4, "repeal section 3", w3, "number section 3 as 9"}, []bool{false, false, true}},
		{[]string{"commence act 1 from day 40", "repeal section 3", "commence act 1 from day 40", x3}, []bool{true, true, true}},
	} {
		if got := checkCanSwap(t, u, falling(c.l...)); !slices.Equal(got, c.want) {
			t.Error(i, got)
		}
	}
	if commute.CanSwap(u, []api.EnactedItem{}, 0) || commute.CanSwap(u, nil, -1) {
		t.Error("an empty list")
	}
	same := do(7, 0, x3)
	if commute.CanSwap(u, []api.EnactedItem{same, do(7, 0, x4)}, 0) || !commute.CanSwap(u, []api.EnactedItem{same, do(7, 1, x4)}, 0) {
		t.Error("the same act and item")
	}
	roomy := append(make([]api.EnactedItem, 0, 5), same)
	_ = append(roomy, do(8, 0, x4)) // which lies behind the end of the list
	if commute.CanSwap(u, roomy, 0) {
		t.Error("behind the end")
	}
}

// P26.3 and P26.4: Sort

// checkSort compares Sort with the model, and the books that the sorted and the original sequence produce. It returns the sorted sequence.
func checkSort(t *testing.T, u api.Unit, l []api.EnactedItem) []api.EnactedItem {
	t.Helper()
	kept, keptTree := copyOfItems(l), copyOf(u)
	want, _ := sorted(u, l)
	got := commute.Sort(u, l...)
	if !sameItems(got, want) {
		t.Fatalf("Sort(%s): %s, want %s", about(l...), about(got...), about(want...))
	}
	if !sameItems(l, kept) || !unit.Equal(u, keptTree) {
		t.Fatal(about(l...), "arguments are modified")
	}
	before, failures := enact.ApplyAll(u, l...)
	after, others := enact.ApplyAll(u, got...)
	if !unit.Equal(before, after) || len(failures) != len(others) {
		t.Fatal(about(l...), plaintext.Lines(before), plaintext.Lines(after))
	}
	for _, f := range failures {
		if !slices.Contains(others, f) {
			t.Fatal(about(l...), f, others)
		}
	}
	return got
}

// expectSorted sorts items and expects the order of their indices.
func expectSorted(t *testing.T, u api.Unit, l []api.EnactedItem, want ...int) {
	t.Helper()
	l = copyOfItems(l)
	for i := range l {
		l[i].Day = i // which tells them apart
	}
	var got []int
	for _, d := range checkSort(t, u, l) {
		got = append(got, d.Day)
	}
	if !slices.Equal(got, want) {
		t.Errorf("Sort(%s): %v, want %v", about(l...), got, want)
	}
}

func TestSort(t *testing.T) {
	u := sample()
	x3, y3, w3, x4, x1 := `head section 3 as "x"`, `head section 3 as "y"`, `in section 3 for "a" put "c" each`, `head paragraph 4 as "x"`, `head part 1 as "x"`
	expectSorted(t, u, nil)
	expectSorted(t, u, []api.EnactedItem{}, nil...)
	expectSorted(t, u, falling(x3), 0)
	// In order, by act and then by item.
	expectSorted(t, u, listed([][2]int{{1, 0}, {1, 1}, {2, 0}, {10, 0}}, x3, w3, x4, x1), 0, 1, 2, 3)
	expectSorted(t, u, listed([][2]int{{-3, 5}, {-2, -1}, {-2, 0}, {0, -9}}, x3, w3, x4, x1), 0, 1, 2, 3)
	// In reverse order.
	expectSorted(t, u, falling(x3, w3), 1, 0)
	expectSorted(t, u, falling(x3, w3, x4, x1), 3, 2, 1, 0)
	expectSorted(t, u, listed([][2]int{{1, 3}, {1, 2}, {1, 1}, {1, 0}}, x3, w3, x4, x1), 3, 2, 1, 0)
	expectSorted(t, u, listed([][2]int{{2, 0}, {1, 9}, {10, -1}, {1, 10}}, x3, w3, x4, x1), 1, 3, 0, 2)
	expectSorted(t, u, listed([][2]int{{math.MaxInt, 0}, {math.MinInt, math.MaxInt}, {math.MinInt, math.MinInt}}, x3, w3, x4), 2, 1, 0)
	// Equal acts and items are not exchanged.
	expectSorted(t, u, listed([][2]int{{2, 1}, {2, 1}, {2, 1}}, x3, w3, x4), 0, 1, 2)
	expectSorted(t, u, listed([][2]int{{2, 1}, {1, 1}, {2, 1}, {1, 1}}, x3, w3, x4, x1), 1, 3, 0, 2)
	// Neighbors that cannot be swapped.
	expectSorted(t, u, falling(x3, y3), 0, 1)
	expectSorted(t, u, falling(x3, w3, y3), 1, 0, 2)        // y3 has to stay behind x3
	expectSorted(t, u, falling(w3, x3, y3, x4), 3, 1, 2, 0) // x3 and y3 in the middle
	expectSorted(t, u, falling(x4, x3, y3, w3), 3, 1, 2, 0)
	expectSorted(t, u, falling(x3, y3, x4, w3, x1), 4, 3, 2, 0, 1)
	expectSorted(t, u, falling("repeal section 3", x3, x1), 2, 0, 1)
	expectSorted(t, u, falling("number section 3 as 9", "repeal section 9", x1, `head note 7 as "x"`), 2, 0, 1, 3)
	// Orders, invalid items, and items that fail.
	expectSorted(t, u, falling("commence act 1 from day 40", x3, "happen union on day 40"), 2, 1, 0)
	expectSorted(t, u, falling("repeal section 77", "repeal section 78", "repeal all"), 2, 1, 0)
	bad := falling(x3, y3)
	bad[0].It.Label = "1"
	expectSorted(t, u, bad, 1, 0)
}

// TestFirstPairFirst looks at a sequence whose result depends on which pair is swapped first.
func TestFirstPairFirst(t *testing.T) {
	u := sample()
	found := 0
	r := rand.New(rand.NewSource(7))
	for range 400 {
		l := randomItems(r, u, 5)
		got := checkSort(t, u, l)
		if other := lastPairFirst(u, l); !sameItems(got, other) {
			found++
		}
	}
	if found == 0 {
		t.Error("no such sequence")
	}
}

// lastPairFirst is the procedure of sorting, but for swapping the last pair that can be swapped.
func lastPairFirst(u api.Unit, l []api.EnactedItem) []api.EnactedItem {
	l = copyOfItems(l)
	for at := len(l) - 2; at >= 0; at-- {
		x, y := l[at], l[at+1]
		if (y.Act < x.Act || y.Act == x.Act && y.Item < x.Item) && swappable(u, l, at) {
			exchange(l, at)
			at = len(l) - 1
		}
	}
	return l
}

// TestSortMany sorts a long sequence in reverse order, most of whose items can be swapped.
func TestSortMany(t *testing.T) {
	var lines, l []string
	for i := range 40 {
		lines = append(lines, fmt.Sprint("  section ", i+1, " | a"))
		l = append(l, fmt.Sprint("head section ", i+1, ` as "x"`), fmt.Sprint("in section ", i+1, ` ahead of all put "b"`))
	}
	u := tree(append([]string{"book"}, lines...)...)
	items := falling(l...)
	got := commute.Sort(u, items...)
	slices.Reverse(items)
	if !sameItems(got, items) {
		t.Error(about(got...))
	}
}

// Random sequences

// randomText returns the text of an amendment about the tree, which often has an effect.
func randomText(r *rand.Rand, u api.Unit) string {
	ids := unit.IDs(u)
	someAddress := func() string {
		p, _ := address.Full(u, ids[r.Intn(len(ids))])
		if r.Intn(3) == 0 {
			p = p[len(p)-1:]
		}
		return address.Format(p...)
	}
	at, n := someAddress(), 1+r.Intn(5)
	place := fmt.Sprintf([]string{"into %s first", "into %s last", "behind %s", "ahead of %s"}[r.Intn(4)], someAddress())
	switch r.Intn(9) {
	case 0:
		return put(place, fmt.Sprint("section ", n+5, ": h | a"), "  paragraph 9 | a b")
	case 1:
		return put(place, fmt.Sprint("paragraph ", n+5, " | a b a"))
	case 2:
		return "repeal " + at
	case 3:
		return fmt.Sprintf(`in %s for "a" put "b c" each`, at)
	case 4:
		return fmt.Sprintf(`in %s ahead of all put "a"`, at)
	case 5, 6:
		return fmt.Sprintf(`head %s as "x"`, at)
	case 7:
		return fmt.Sprint("number ", at, " as ", n)
	}
	return "move " + at + " " + place
}

// randomItems returns n items about the books that the items before them make.
func randomItems(r *rand.Rand, u api.Unit, n int) []api.EnactedItem {
	var l []api.EnactedItem
	for range n {
		d := do(5+r.Intn(6), r.Intn(3), randomText(r, u))
		l = append(l, d)
		if r.Intn(3) > 0 {
			u, _ = enact.Apply(u, d)
		}
	}
	return l
}

// withoutTwins returns the items without those whose act and item another one has already. Two Inserts of one act and item could not both take effect.
func withoutTwins(l []api.EnactedItem) []api.EnactedItem {
	seen := map[api.ItemRef]bool{}
	return slices.DeleteFunc(l, func(d api.EnactedItem) bool {
		ref := api.ItemRef{Act: d.Act, Item: d.Item}
		was := seen[ref]
		seen[ref] = true
		return was
	})
}

// TestRandomSequences compares CanSwap and Sort with the model, also for sequences that contain an act and item twice.
func TestRandomSequences(t *testing.T) {
	r := rand.New(rand.NewSource(26))
	moved := 0
	for i := range 500 {
		u := sample()
		l := randomItems(r, u, r.Intn(9))
		if i%2 == 0 {
			l = withoutTwins(l)
		}
		checkCanSwap(t, u, l)
		if !sameItems(checkSort(t, u, l), l) {
			moved++
		}
	}
	if moved < 200 {
		t.Error(moved)
	}
}

// TestRandomActs compares CommuteActs with the model, and expects that separable acts produce the same book in either order.
func TestRandomActs(t *testing.T) {
	r := rand.New(rand.NewSource(27))
	counts := map[[2]bool]int{}
	for range 3000 {
		u := sample()
		a, b := api.Act{Number: 7}, api.Act{Number: 8}
		for _, x := range []*api.Act{&a, &b} {
			for _, d := range randomItems(r, u, r.Intn(4)) {
				x.Items = append(x.Items, d.It)
			}
		}
		sound, exact, _ := checkActs(t, u, a, b)
		if sound && !exact {
			t.Fatal(about(itemsOf(a)...), about(itemsOf(b)...))
		}
		counts[[2]bool{sound, exact}]++
		x, y := do(7, 0, randomText(r, u)), do(8, 0, randomText(r, u))
		if independent, commutes := checkPair(t, u, x, y); independent && !commutes {
			t.Fatal(about(x, y))
		}
	}
	if counts[[2]bool{true, true}] < 100 || counts[[2]bool{false, true}] < 100 || counts[[2]bool{false, false}] < 100 {
		t.Error(counts)
	}
}
