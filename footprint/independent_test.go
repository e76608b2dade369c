package footprint_test

import (
	"fmt"
	"math/rand"
	"slices"
	"testing"

	"pandect/api"
	"pandect/enact"
	"pandect/footprint"
	"pandect/plaintext"
	"pandect/syntax"
	"pandect/unit"
)

// P25.2 and P25.4: independence

// checkPair compares Independent with the model, in both orders, and expects that independent items commute. It returns what Independent reports.
func checkPair(t *testing.T, u api.Unit, a, b api.EnactedItem) bool {
	t.Helper()
	want := areIndependent(u, a, b)
	if one, two := footprint.Independent(u, a, b), footprint.Independent(u, b, a); one != want || two != want {
		t.Fatalf("%s and %s: %v and %v, want %v", about(a), about(b), one, two, want)
	}
	if want {
		checkOrders(t, u, a, b)
	}
	return want
}

// checkOrders expects that two items, which are independent, yield the same book in either order, and that each has the same effect, or fails for the same reason, as it does alone.
func checkOrders(t *testing.T, u api.Unit, a, b api.EnactedItem) {
	t.Helper()
	afterA, errnoA := enact.Apply(u, a)
	afterB, errnoB := enact.Apply(u, b)
	ab, secondB := enact.Apply(afterA, b)
	ba, secondA := enact.Apply(afterB, a)
	if !unit.Equal(ab, ba) || secondA != errnoA || secondB != errnoB {
		t.Fatal(about(a), about(b), errnoA, secondA, errnoB, secondB, plaintext.Lines(ab), plaintext.Lines(ba))
	}
	if !slices.Equal(enact.Affected(u, a), enact.Affected(afterB, a)) || !slices.Equal(enact.Affected(u, b), enact.Affected(afterA, b)) {
		t.Fatal(about(a), about(b), "not the same effect")
	}
}

// expectPair expects whether two items are independent, as items of different acts and of one act.
func expectPair(t *testing.T, u api.Unit, a, b string, want bool) {
	t.Helper()
	for _, other := range []api.ItemRef{{Act: act + 1, Item: item}, {Act: act, Item: item + 1}, {Act: item, Item: act}} {
		x, y := do(a), doAs(other.Act, other.Item, b)
		if checkPair(t, u, x, y) != want {
			t.Errorf("%s and %s: %v", about(x), about(y), !want)
		}
	}
	x, y := do(a), do(b)
	y.Day = -7
	if checkPair(t, u, x, y) {
		t.Errorf("%s and %s: independent", about(x), about(y))
	}
}

func TestIndependent(t *testing.T) {
	u := sample()
	const paragraph, note = ` insert "paragraph 8` + "\n\"", ` insert "note 8` + "\n\""
	for _, c := range []struct {
		a, b string
		want bool
	}{
		// Both write.
		{`in section 3 for "a" put "c" each`, `in section 3 behind "b" put "d" each`, false},
		{`head section 3 as "x"`, `head section 3 as "y"`, false},
		{`head section 3 as "x"`, `head section 3 as "x"`, false},
		{"number section 3 as 4", "number part 1 as 4", false}, // in one list of kids
		{"into section 3 first" + paragraph, "into section 3 last" + note, false},
		{"repeal part 2", "repeal section 3", false},
		{"repeal section 2", "repeal section 3", true},
		{"move section 2 into part 2 first", "into part 2 last insert \"section 8\n\"", false},
		// One writes what the other reads.
		{"number section 3 as 4", `head section 3 as "x"`, false},
		{"number section 3 as 4", `head section 4 as "x"`, false}, // which there is after the first one only
		{"number section 3 as 4", `head section 3 paragraph 5 as "x"`, false},
		{"number section 3 as 4", `head paragraph 5 as "x"`, true},
		{"number paragraph 3 as 1", `head section 1 paragraph 1 as "x"`, false},
		{"repeal part 2", "move section 3 into part 2 last", false},
		{"repeal paragraph 5", "move section 3 into part 2 last", false}, // the kids of the moved unit
		{"repeal section 2", `in section 2 ahead of all put "c"`, false},
		{"repeal section 3", "into note 1 first" + note, false}, // a name that matches less without the section
		{"into section 2 last" + paragraph, `head paragraph 8 as "x"`, false},
		{"into section 2 last" + paragraph, "repeal section 2", false},
		{"into section 2 last" + paragraph, "number section 2 as 3", false},
		{"into section 2 last" + paragraph, "move section 2 behind section 3", false},
		{"into section 2 last" + paragraph, "into section 3 last" + paragraph, false}, // both write a name, which neither reads
		{"into section 2 last" + paragraph, "into section 3 last" + note, true},
		{"into section 3 last" + ` insert "paragraph 3` + "\n\"", "number paragraph 4 as 9", false}, // the first one fails, but reads the kids
		{"number paragraph 4 as 3", "repeal paragraph 3", false},                                    // the first one fails, but reads the kids
		{"move paragraph 4 into section 2 first", `in paragraph 4 for "x" put "c" each`, false},
		{`in section 3 for "z" put "c" each`, `in section 3 for "a" put "z" each`, false}, // the first one fails, but reads the words
		// Neither writes what the other reads or writes.
		{`in section 3 for "a" put "c" each`, `head section 3 as "x"`, true},
		{`in section 3 for "a" put "c" each`, `in paragraph 4 for "x" put "c" each`, true},
		{`head section 3 as "x"`, "repeal paragraph 3", true},
		{`head section 3 as "x"`, "into section 3 first" + paragraph, true},
		{`head section 3 as "x"`, "move paragraph 5 ahead of paragraph 3", true},
		{`in section 3 for "z" put "c" each`, `in section 3 for "y" put "d" each`, true}, // both fail
		{"repeal section 77", "repeal section 77", true},
		{"repeal all", "repeal all", true},
		{"repeal all", "repeal section 3", true},
		{"into all last insert \"section 3\n\"", "number part 1 as 2", true}, // both fail, and read the same kids
		{"move section 2 ahead of section 77", "repeal part 2", true},
		// Orders have no keys.
		{"commence act 7 from day 40", "repeal section 3", true},
		{"happen union on day 40", "expire act 7 item 2 from day 40", true},
		{"correct act 8 item 2 as repeal section 3", "repeal section 3", true},
	} {
		expectPair(t, u, c.a, c.b, c.want)
		expectPair(t, u, c.b, c.a, c.want)
	}
}

// TestIndependentOfKnownIDs expects that an Insert which fails since an ID is taken depends on what frees the ID.
func TestIndependentOfKnownIDs(t *testing.T) {
	u := sample()
	d := insertion("into section 3 first", "paragraph 8", "  note 1")
	d.Act, d.Item = 3, 1
	for text, want := range map[string]bool{
		"repeal book part 1":              false, // frees 3 1 1
		"repeal part 1 section 2":         false, // writes the kids of 3 1 1
		"number section 2 as 7":           false,
		"move section 2 into all first":   false,
		"repeal part 2":                   true,
		`head part 1 as "x"`:              true,
		"move section 3 into part 2 last": false, // writes a name that d reads
	} {
		if got := checkPair(t, u, d, do(text)); got != want {
			t.Error(text, got)
		}
	}
}

// TestInvalidItems expects that items without keys are independent of all others, unless they have the same Act and Item.
func TestInvalidItems(t *testing.T) {
	u := sample()
	for i, it := range slices.Concat(invalid(), valid()[api.Commence:]) {
		if !checkPair(t, u, by(1, 2, it), do("repeal section 3")) || !checkPair(t, u, by(1, 2, it), by(1, 3, it)) {
			t.Error(i, about(by(1, 2, it)))
		}
		if checkPair(t, u, by(act, item, it), do("repeal section 3")) || checkPair(t, u, by(1, 2, it), by(1, 2, it)) {
			t.Error(i, about(by(1, 2, it)))
		}
	}
}

// some returns items of every kind about the units of the sample.
func some() []api.EnactedItem {
	var l []api.EnactedItem
	add := func(text string) { l = append(l, doAs(10+len(l)/5, len(l)%5, text)) }
	for _, at := range []string{"all", "part 1", "part 2", "section 1", "section 2", "section 3", "part 1 section 1", "paragraph 2", "paragraph 4", "table 1", "section 77"} {
		add("repeal " + at)
		add("head " + at + ` as "x"`)
		add("in " + at + ` for "a" put "b" each`)
		add("in " + at + ` ahead of all put "a"`)
		add("number " + at + " as 2")
		add("number " + at + " as 4")
		add("into " + at + " first insert \"paragraph 2\n\"")
		add("into " + at + " last insert \"section 2\n\"")
		add("behind " + at + " insert \"paragraph 4\n  note 1\n\"")
		add("move " + at + " into part 2 first")
		add("move paragraph 2 behind " + at)
		add("move section 3 into " + at + " last")
	}
	return l
}

// TestEveryPair compares all pairs of many items with the model, on two books.
func TestEveryPair(t *testing.T) {
	l := some()
	for i, u := range []api.Unit{sample(), tree("book", "  part 2", "    section 1 | a", "      paragraph 2 | a", "      paragraph 4", "  section 2 | a b", "    note 1")} {
		independent, other := 0, 0
		for i, a := range l {
			for _, b := range l[i:] {
				if checkPair(t, u, a, b) {
					independent++
				} else {
					other++
				}
			}
		}
		if independent < 500 || other < 500 {
			t.Error(i, independent, other)
		}
	}
}

// TestMaxUnits looks at independent items which together exceed the limit for the units of a book: the one exception.
func TestMaxUnits(t *testing.T) {
	u := api.Unit{}
	for i := range 17 {
		section := api.Unit{Kind: api.Section, Label: fmt.Sprint(i + 1), Id: api.Id{Act: 1, Item: i, N: 1}}
		for k := range 59 {
			section.Kids = append(section.Kids, api.Unit{Kind: api.Para, Label: fmt.Sprint(k + 1), Id: api.Id{Act: 1, Item: i, N: k + 2}})
		}
		u.Kids = append(u.Kids, section)
	}
	u.Kids[0].Kids = append(u.Kids[0].Kids, api.Unit{Kind: api.Note, Label: "1", Id: api.Id{Act: 2, N: 1}}, api.Unit{Kind: api.Note, Label: "2", Id: api.Id{Act: 2, N: 2}})
	a, b := doAs(3, 0, "into section 2 first insert \"note 1\n\""), doAs(3, 1, "into section 3 first insert \"note 2\n\"")
	if n := unit.Count(u); n != 1023 || !footprint.Independent(u, a, b) || !areIndependent(u, a, b) {
		t.Error(n)
	}
	afterA, _ := enact.Apply(u, a)
	if _, errno := enact.Apply(afterA, b); errno != api.ErrFull || !footprint.Independent(afterA, a, b) {
		t.Error(errno)
	}
	if got := footprint.Writes(afterA, b); len(got) != 0 {
		t.Error(texts(got))
	}
}

// Random books

// randomUnit returns a bare tree of a kind.
func randomUnit(r *rand.Rand, kind, depth int) api.Unit {
	words := func() []api.Word {
		var l []api.Word
		for range r.Intn(4) {
			l = append(l, api.Word{Text: []string{"a", "b", "c"}[r.Intn(3)]})
		}
		return l
	}
	u := api.Unit{Kind: kind, Label: fmt.Sprint(1 + r.Intn(4)), Head: words(), Words: words()}
	if depth == 0 {
		return u
	}
	for range r.Intn(4) {
		kid := randomUnit(r, 1+r.Intn(7), depth-1)
		if unit.CanContain(kind, kid.Kind) && !slices.ContainsFunc(u.Kids, func(x api.Unit) bool { return x.Kind == kid.Kind && x.Label == kid.Label }) {
			u.Kids = append(u.Kids, kid)
		}
	}
	return u
}

// randomItem returns an amendment about the tree, which often has an effect.
func randomItem(r *rand.Rand, u api.Unit) api.Item {
	l := addresses(u)
	it := api.Item{Kind: r.Intn(7), At: l[r.Intn(len(l))]}
	switch it.Kind {
	case api.Insert:
		it.Where = r.Intn(4)
		it.Unit = randomUnit(r, 1+r.Intn(7), 2)
		x := only(matched(&u, it.At))
		for n := 0; n < 20 && x != nil; n++ {
			if p := newParent(&u, x, it); p != nil && !unit.CanContain(p.u.Kind, it.Unit.Kind) {
				it.Unit = randomUnit(r, 1+r.Intn(7), 2)
			}
		}
	case api.ReplaceWords:
		it.Old, it.New, it.Nth = []string{"a"}, []string{"b", "c"}[r.Intn(3):], r.Intn(3)
	case api.InsertWords:
		it.Old, it.New, it.Nth = []string{"b"}, []string{"a", "b"}, r.Intn(3)
		if r.Intn(2) == 0 {
			it.Old, it.Nth = nil, 0
		}
	case api.Heading:
		it.New = []string{"a", "b"}[r.Intn(3):]
	case api.Relabel:
		it.Label = fmt.Sprint(1 + r.Intn(5))
	case api.Move:
		it.To, it.Where = l[r.Intn(len(l))], r.Intn(4)
	}
	return it
}

// TestRandom builds books from the empty one by random items, and compares each item, and pairs of further ones, with the model.
func TestRandom(t *testing.T) {
	r := rand.New(rand.NewSource(25))
	independent, effects := 0, map[int]int{}
	for range 200 {
		u := enact.Empty()
		for n := range 60 {
			it := randomItem(r, u)
			if unit.Count(u) > 40 && it.Kind == api.Insert {
				it = api.Item{Kind: api.Repeal, At: it.At}
			}
			d := by(n/10, n%10, it)
			if check(t, u, d) {
				effects[it.Kind]++
			}
			u, _ = enact.Apply(u, d)
			a, b := by(100, r.Intn(3), randomItem(r, u)), by(100, r.Intn(3), randomItem(r, u))
			if r.Intn(10) == 0 {
				a.Act, a.Item = r.Intn(n/10+1), r.Intn(10) // whose IDs may be in the book
			}
			if checkPair(t, u, a, b) {
				independent++
			}
		}
	}
	for kind := api.Insert; kind <= api.Move; kind++ {
		if effects[kind] < 50 {
			t.Error(syntax.KindName(kind), effects[kind])
		}
	}
	if independent < 1000 {
		t.Error(independent)
	}
}
