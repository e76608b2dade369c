package consolidate_test

import (
	"fmt"
	"math/rand"
	"slices"
	"testing"

	"pandect/api"
	"pandect/consolidate"
	"pandect/corpus"
	"pandect/enact"
	"pandect/inforce"
	"pandect/unit"
)

// Random gazettes

// randomText returns the text of an amendment about one of few sections, or of an order about one of few acts.
func randomText(r *rand.Rand) string {
	n := func(max int) int { return 1 + r.Intn(max) }
	word := func() string { return []string{"a", "b", "c"}[r.Intn(3)] }
	switch r.Intn(13) {
	case 0:
		return insertion("into all last", fmt.Sprintf("section %d: h | a b %s", n(4), word()), fmt.Sprintf("  paragraph %d | c %s", n(3), word()))
	case 1, 2:
		return insertion("into all first", fmt.Sprintf("section %d | %s a", n(4), word()))
	case 3:
		return insertion(fmt.Sprintf("into section %d last", n(4)), fmt.Sprintf("paragraph %d | %s", n(3), word()))
	case 4:
		return fmt.Sprintf("repeal section %d", n(4))
	case 5:
		return fmt.Sprintf(`in section %d for "%s" put "%s %s" each`, n(4), word(), word(), word())
	case 6:
		return fmt.Sprintf(`in section %d behind "%s" put "%s" at %d`, n(4), word(), word(), n(2))
	case 7:
		return fmt.Sprintf(`head section %d as "%s"`, n(4), word())
	case 8:
		return fmt.Sprintf("number section %d as %d", n(4), n(5))
	case 9:
		return fmt.Sprintf("move section %d ahead of section %d", n(4), n(4))
	case 10:
		return fmt.Sprintf("%s act %d from day %d", []string{"commence", "expire", "revive"}[r.Intn(3)], n(6), r.Intn(12))
	case 11:
		return fmt.Sprintf("%s act %d item %d from day %d", []string{"commence", "expire", "revive"}[r.Intn(3)], n(6), r.Intn(4), r.Intn(12))
	}
	return fmt.Sprintf("correct act %d item %d as in section %d ahead of all put \"%s\"", n(6), r.Intn(4), n(4), word())
}

// randomAct returns an act with one of few numbers, enacted on one of few days. Some of its amendments have purposes and starts of their own.
func randomAct(r *rand.Rand) api.Act {
	start := []string{"from day 0", "from day 5", "by order"}[r.Intn(3)]
	var texts []string
	for range r.Intn(6) {
		texts = append(texts, randomText(r))
	}
	a := enacted(1+r.Intn(6), r.Intn(4), start, texts...)
	for i := range a.Items {
		it := &a.Items[i]
		if it.Kind > api.Move {
			continue
		}
		it.For = []string{"", "", "", "tax", "trade"}[r.Intn(5)]
		if r.Intn(4) == 0 {
			it.Start = api.Start{Kind: api.OnDay, Day: r.Intn(12)}
		}
	}
	return a
}

// randomGazettes returns up to six gazettes with one or two acts, of which some have the number of another.
func randomGazettes(r *rand.Rand) []api.Gazette {
	var l []api.Gazette
	for range r.Intn(7) {
		g := gazette(randomAct(r))
		if r.Intn(2) == 0 {
			g.Acts = append(g.Acts, randomAct(r))
		}
		l = append(l, g)
	}
	return l
}

// forRandomBooks calls f with random gazettes, a breakpoint of them and a purpose, and expects that many books are not empty and that many items in force fail.
func forRandomBooks(t *testing.T, seed int64, f func(day int, purpose string, l []api.Gazette)) {
	r := rand.New(rand.NewSource(seed))
	books, failures := 0, 0
	for range 100 {
		l := randomGazettes(r)
		for _, day := range inforce.Breakpoints(l...) {
			for _, purpose := range purposesOf(l) {
				f(day, purpose, l)
				if len(consolidate.Book(day, purpose, l...).Kids) > 0 {
					books++
				}
				failures += len(consolidate.Failures(day, purpose, l...))
			}
		}
	}
	if books < 200 || failures < 200 {
		t.Error("few books, or few failures:", books, failures)
	}
}

// TestRandomGazettes compares all functions with the model, for a day and a purpose of each list.
func TestRandomGazettes(t *testing.T) {
	r := rand.New(rand.NewSource(1))
	for range 120 {
		l := randomGazettes(r)
		days, purposes := daysOf(l), purposesOf(l)
		check(t, days[r.Intn(len(days))], purposes[r.Intn(len(purposes))], l)
	}
}

// P30.3

// TestItemByItem expects that the book through an item is the result of applying it to the book before it, that this book is the one through the item before, and that the book through the last item is the book.
func TestItemByItem(t *testing.T) {
	forRandomBooks(t, 2, func(day int, purpose string, l []api.Gazette) {
		book := enact.Empty()
		var failures []api.Failure
		for _, d := range inforce.On(day, purpose, l...) {
			at := api.ItemRef{Act: d.Act, Item: d.Item}
			if before := consolidate.Before(day, purpose, at, l...); !unit.Equal(before, book) {
				t.Fatalf("%sBefore(%d, %q, %v): %s", about(l), day, purpose, at, text(before))
			}
			after, errno := enact.Apply(book, d)
			book = consolidate.Through(day, purpose, at, l...)
			if !unit.Equal(book, after) || consolidate.HasEffect(day, purpose, at, l...) != (errno == api.OK) {
				t.Fatalf("%sThrough(%d, %q, %v): %s", about(l), day, purpose, at, text(book))
			}
			if errno != api.OK {
				failures = append(failures, api.Failure{Act: d.Act, Item: d.Item, Why: errno})
			}
		}
		if got := consolidate.Book(day, purpose, l...); !unit.Equal(got, book) || !slices.Equal(consolidate.Failures(day, purpose, l...), failures) {
			t.Fatalf("%sBook(%d, %q): %s", about(l), day, purpose, text(got))
		}
	})
}

// republished returns one gazette with the acts that count. Its items are those in force, without what decides about it, and all others are declarations of an event.
func republished(day int, purpose string, l []api.Gazette) api.Gazette {
	g := gazette()
	items := inforce.On(day, purpose, l...)
	for _, a := range corpus.Acts(l...) {
		a.Title, a.Start = "", api.Start{Kind: api.OnDay, Day: day}
		for i := range a.Items {
			a.Items[i] = api.Item{Kind: api.DeclareEvent, Event: "peace"}
			k := slices.IndexFunc(items, func(d api.EnactedItem) bool { return d.Act == a.Number && d.Item == i })
			if k >= 0 {
				a.Items[i] = items[k].It
				a.Items[i].Start, a.Items[i].For = api.Start{}, ""
			}
		}
		g.Acts = append([]api.Act{a}, g.Acts...)
	}
	return g
}

// TestItemsInForceDecide expects the same book and the same failures by other gazettes with the same items in force, and without those that fail.
func TestItemsInForceDecide(t *testing.T) {
	forRandomBooks(t, 3, func(day int, purpose string, l []api.Gazette) {
		book, failures := consolidate.Book(day, purpose, l...), consolidate.Failures(day, purpose, l...)
		g := republished(day, purpose, l)
		if got := consolidate.Book(day, "", g); !unit.Equal(got, book) || !slices.Equal(consolidate.Failures(day, "", g), failures) {
			t.Fatalf("%sBook(%d, %q): %s\n%s", about(l), day, purpose, text(got), text(book))
		}
		for _, f := range failures {
			for _, a := range g.Acts {
				if a.Number == f.Act {
					a.Items[f.Item] = api.Item{Kind: api.Expire}
				}
			}
		}
		if got := consolidate.Book(day, "", g); !unit.Equal(got, book) || len(consolidate.Failures(day, "", g)) != 0 {
			t.Fatalf("%sBook(%d, %q): %s\n%s", about(l), day, purpose, text(got), text(book))
		}
	})
}

// TestUnknownPurposes expects the book of the empty purpose for a purpose that no item in force is restricted to.
func TestUnknownPurposes(t *testing.T) {
	restricted := 0
	forRandomBooks(t, 4, func(day int, purpose string, l []api.Gazette) {
		if slices.ContainsFunc(inforce.On(day, purpose, l...), func(d api.EnactedItem) bool { return d.It.For != "" }) {
			restricted++
			return
		}
		got, want := consolidate.Book(day, purpose, l...), consolidate.Book(day, "", l...)
		if !unit.Equal(got, want) || !slices.Equal(consolidate.Failures(day, purpose, l...), consolidate.Failures(day, "", l...)) {
			t.Fatalf("%sBook(%d, %q): %s, want %s", about(l), day, purpose, text(got), text(want))
		}
	})
	if restricted < 100 {
		t.Error("few restricted items:", restricted)
	}
}

// forUnits calls f with each unit of a tree.
func forUnits(u api.Unit, f func(u api.Unit)) {
	f(u)
	for _, kid := range u.Kids {
		forUnits(kid, f)
	}
}

// TestDistinct expects that no two units of a book have the same ID, and no two words the same mark, and that all of them name an item in force that has an effect.
func TestDistinct(t *testing.T) {
	words := 0
	forRandomBooks(t, 5, func(day int, purpose string, l []api.Gazette) {
		ids, marks := map[api.Id]bool{}, map[api.Mark]bool{}
		effective := map[api.ItemRef]bool{}
		for _, d := range inforce.On(day, purpose, l...) {
			at := api.ItemRef{Act: d.Act, Item: d.Item}
			effective[at] = consolidate.HasEffect(day, purpose, at, l...)
		}
		forUnits(consolidate.Book(day, purpose, l...), func(u api.Unit) {
			if ids[u.Id] || u.Kind != api.Book && !effective[api.ItemRef{Act: u.Id.Act, Item: u.Id.Item}] {
				t.Fatal(about(l), day, purpose, u.Id)
			}
			ids[u.Id] = true
			for _, w := range slices.Concat(u.Head, u.Words) {
				if marks[w.By] || !effective[api.ItemRef{Act: w.By.Act, Item: w.By.Item}] {
					t.Fatal(about(l), day, purpose, w)
				}
				marks[w.By] = true
				words++
			}
		})
	})
	if words < 2000 {
		t.Error("few words:", words)
	}
}

// TestFirstGazettes expects that what the first gazettes say does not depend on later ones.
func TestFirstGazettes(t *testing.T) {
	r := rand.New(rand.NewSource(6))
	changed := 0
	for range 100 {
		l := randomGazettes(r)
		for k := range l {
			for _, day := range []int{0, 3, 5, 11} {
				alone := copyOf(l[:k])
				book, failures := consolidate.Book(day, "tax", alone...), consolidate.Failures(day, "tax", alone...)
				later := consolidate.Book(day, "tax", l...)
				if got := consolidate.Book(day, "tax", l[:k]...); !unit.Equal(got, book) || !slices.Equal(consolidate.Failures(day, "tax", l[:k]...), failures) {
					t.Fatalf("%sBook(%d): %s, want %s", about(l[:k]), day, text(got), text(book))
				}
				if !unit.Equal(later, book) {
					changed++
				}
			}
		}
	}
	if changed < 100 {
		t.Error("few changes:", changed)
	}
}

// TestPublishedAgain expects that the same acts in one gazette, in another order, and a second time make the same book.
func TestPublishedAgain(t *testing.T) {
	r := rand.New(rand.NewSource(7))
	for range 100 {
		l := randomGazettes(r)
		g := gazette(corpus.Acts(l...)...)
		r.Shuffle(len(g.Acts), func(i, k int) { g.Acts[i], g.Acts[k] = g.Acts[k], g.Acts[i] })
		g.Acts = append(g.Acts, enactedAgain(g.Acts)...)
		for _, day := range inforce.Breakpoints(l...) {
			if x, y := consolidate.Book(day, "trade", l...), consolidate.Book(day, "trade", g); !unit.Equal(x, y) {
				t.Fatalf("%sBook(%d): %s, %s", about(l), day, text(x), text(y))
			}
		}
	}
}

// enactedAgain returns other acts with the same numbers.
func enactedAgain(l []api.Act) []api.Act {
	var out []api.Act
	for _, a := range l {
		out = append(out, enacted(a.Number, 0, "from day 0", `head section 1 as "again"`, fmt.Sprintf("expire act %d from day 0", a.Number)))
	}
	return out
}
