package enact_test

import (
	"math/rand"
	"slices"
	"strings"
	"testing"

	"pandect/api"
	"pandect/enact"
	"pandect/syntax"
	"pandect/unit"
)

// Arguments and results

// spoil overwrites everything in a tree, up to the capacities.
func spoil(u api.Unit) {
	for _, l := range [][]api.Word{u.Head[:cap(u.Head)], u.Words[:cap(u.Words)]} {
		for i := range l {
			l[i] = api.Word{Text: "spoiled", By: api.Mark{Act: -9}}
		}
	}
	kids := u.Kids[:cap(u.Kids)]
	for i := range kids {
		spoil(kids[i])
		kids[i] = api.Unit{Label: "spoiled"}
	}
}

// spoilItem overwrites everything in an instruction, up to the capacities.
func spoilItem(it api.Item) {
	for _, p := range [][]api.Step{it.At[:cap(it.At)], it.To[:cap(it.To)]} {
		for i := range p {
			p[i] = api.Step{Kind: -9}
		}
	}
	for _, l := range [][]string{it.Old[:cap(it.Old)], it.New[:cap(it.New)]} {
		for i := range l {
			l[i] = "spoiled"
		}
	}
	spoil(it.Unit)
}

// roomy returns a copy of the list that has spare capacity.
func roomy[T any](l []T) []T { return append(make([]T, 0, len(l)+3), l...) }

// roomyTree returns a copy of the tree whose lists have spare capacity.
func roomyTree(u api.Unit) api.Unit {
	u.Head, u.Words, u.Kids = roomy(u.Head), roomy(u.Words), roomy(u.Kids)
	for i := range u.Kids {
		u.Kids[i] = roomyTree(u.Kids[i])
	}
	return u
}

// roomyItem returns a copy of the instruction whose lists have spare capacity.
func roomyItem(it api.Item) api.Item {
	it.At, it.To, it.Unit, it.Old, it.New = roomy(it.At), roomy(it.To), roomyTree(it.Unit), roomy(it.Old), roomy(it.New)
	return it
}

// unused reports whether the spare capacity of all lists of the tree is unused.
func unused(u api.Unit) bool {
	for _, l := range [][]api.Word{u.Head, u.Words} {
		if slices.ContainsFunc(l[len(l):cap(l)], func(w api.Word) bool { return w != api.Word{} }) {
			return false
		}
	}
	return !slices.ContainsFunc(u.Kids[len(u.Kids):cap(u.Kids)], func(kid api.Unit) bool { return !unit.Equal(kid, api.Unit{}) }) && !slices.ContainsFunc(u.Kids, func(kid api.Unit) bool { return !unused(kid) })
}

// TestArgumentsAndResults changes each result, up to its capacities, and looks at the arguments and at the other results, then the arguments, and looks at the results. It does so for effects and failures of every kind.
func TestArgumentsAndResults(t *testing.T) {
	var l []failing
	for _, it := range valid() {
		l = append(l, failing{u: sample(), d: by(act, item, it)})
	}
	for _, text := range []string{`in section 3 ahead of all put "x"`, "move section 3 behind section 3", "move section 3 into book first", "repeal part 2", `head part 1 as ""`, `in section 3 for "b" put "" at 2`} {
		l = append(l, failing{u: sample(), d: do(text)})
	}
	l = append(l, failing{u: sample(), d: insertion("ahead of section 3", "section 9: x | y z", "  paragraph 1 | w", "  note 1: v")})
	for _, f := range slices.Concat(l, singles(), doubles()) {
		checkMemory(t, f.u, f.d)
	}
}

// checkMemory applies an item by every function, with changes to the results and the arguments.
func checkMemory(t *testing.T, original api.Unit, d api.EnactedItem) {
	t.Helper()
	u := roomyTree(original)
	kept := copyOfItem(d.It)
	d.It = roomyItem(d.It)
	a := api.Act{Number: d.Act, Items: []api.Item{d.It}}
	var trees []api.Unit
	for range 2 {
		x, _ := enact.Apply(u, d)
		y, _ := enact.ApplyAll(u, d)
		z, _ := enact.ApplyAct(u, a)
		trees = append(trees, x, y, z)
	}
	nothing, _ := enact.ApplyAll(u)
	trees = append(trees, nothing)
	var want []api.Unit
	for _, x := range trees {
		want = append(want, copyOf(x))
	}
	ids := enact.Affected(u, d)
	wantIDs := slices.Clone(ids)
	for i, x := range trees[:3] {
		spoil(x)
		if !unit.Equal(u, original) || !unused(u) || !syntax.Equal(d.It, kept) || !unused(d.It.Unit) {
			t.Fatal(about(d), i, "shares memory with an argument")
		}
		for k := 3; k < len(trees); k++ {
			if !unit.Equal(trees[k], want[k]) {
				t.Fatal(about(d), i, k, "results share memory")
			}
		}
	}
	for i := range ids[:cap(ids)] {
		ids[:cap(ids)][i] = unknown
	}
	if got := enact.Affected(u, d); !slices.Equal(got, wantIDs) {
		t.Fatal(about(d), got)
	}
	ids = enact.Affected(u, d)
	spoil(u)
	spoilItem(d.It)
	for k := 3; k < len(trees); k++ {
		if !unit.Equal(trees[k], want[k]) {
			t.Fatal(about(d), k, "an argument is kept")
		}
		checkParts(t, trees[k])
	}
	if !slices.Equal(ids, wantIDs) {
		t.Fatal(about(d), ids)
	}
}

// checkParts changes the lists of each unit of a result, and looks at the other units.
func checkParts(t *testing.T, u api.Unit) {
	t.Helper()
	before := copyOf(u)
	old := places(&before)
	if len(old) > 100 {
		return // of a large book, which does not differ in this
	}
	for i, x := range places(&u) {
		for _, l := range [][]api.Word{x.u.Head[:cap(x.u.Head)], x.u.Words[:cap(x.u.Words)]} {
			for k := range l {
				l[k] = api.Word{Text: "spoiled"}
			}
		}
		copy(x.u.Head, old[i].u.Head)
		copy(x.u.Words, old[i].u.Words)
		if !unit.Equal(u, before) {
			t.Fatal(i, "the parts of a result share memory")
		}
	}
}

// TestFailuresAreNew changes the failures of one call, and looks at those of another one.
func TestFailuresAreNew(t *testing.T) {
	l := []api.EnactedItem{do("repeal section 77"), do("repeal all"), do("repeal section 1")}
	_, one := enact.ApplyAll(sample(), l...)
	_, two := enact.ApplyAll(sample(), l...)
	want := slices.Clone(two)
	for i := range one[:cap(one)] {
		one[:cap(one)][i] = api.Failure{Act: -9}
	}
	l[0].Act = -9
	if !slices.Equal(two, want) || len(two) != 3 {
		t.Error(two)
	}
}

// P1: all arguments

// oddTrees returns trees that are no books.
func oddTrees() []api.Unit {
	deep := tree("paragraph 1 | a")
	for n := range 1 << 16 {
		deep = api.Unit{Id: number(n + 2), Kind: api.Para, Label: "1", Kids: []api.Unit{deep}}
	}
	section := api.Unit{Id: number(1), Kind: api.Section, Label: "1", Words: slices.Repeat([]api.Word{{Text: "a b"}, {Text: "a"}}, 300)}
	wide := api.Unit{Kids: slices.Repeat([]api.Unit{section}, 3000)}
	bad := sample()
	bad.Words = []api.Word{{Text: "a"}}
	double := sample()
	double.Kids[0].Id = double.Kids[1].Id
	zero := sample()
	zero.Kids[1].Id = api.Id{}
	return []api.Unit{deep, section, wide, bad, double, zero, unit.Strip(sample()), {Kind: 77, Label: "x"}, {Kind: -1, Kids: []api.Unit{{}, {Kids: []api.Unit{{}}}}}, {Kind: api.Section, Label: "1"}, {Label: "1"}, {Id: number(1)}}
}

// TestOddArguments gives the functions trees that are no books. No amendment can take effect then; nothing is said about the reason.
func TestOddArguments(t *testing.T) {
	var l []api.EnactedItem
	for _, it := range append(valid(), invalid()...) {
		l = append(l, by(3, 1, it))
	}
	for _, at := range []string{"all", "section 1", "paragraph 1", "book section 1"} {
		for _, text := range []string{"repeal %", `in % for "a" put "b" each`, `in % ahead of all put "b"`, `head % as "x"`, "number % as 2", "move % behind %", "move % into all last", `into % first insert "paragraph 8` + "\n\"", `behind % insert "section 8` + "\n\""} {
			l = append(l, do(strings.ReplaceAll(text, "%", at)))
		}
	}
	for i, u := range oddTrees() {
		if i == 0 || i == 2 { // large ones
			got, failures := enact.ApplyAll(u, l[:12]...)
			if !unit.Equal(got, u) || len(failures) != 7 {
				t.Error(i, failures)
			}
			continue
		}
		for _, d := range l {
			got, errno := enact.Apply(u, d)
			if errno == api.OK || !unit.Equal(got, u) || len(enact.Affected(u, d)) != 0 {
				t.Error(i, about(d), errno)
			}
		}
	}
}

// TestHugeInstructions gives the functions instructions with long lists.
func TestHugeInstructions(t *testing.T) {
	u := sample()
	huge := oddTrees()[0]
	for _, it := range valid() {
		for _, change := range []func(it *api.Item){
			func(it *api.Item) { it.At = slices.Repeat([]api.Step{{Kind: api.Para, Label: "1"}}, 1<<16) },
			func(it *api.Item) { it.To = slices.Repeat([]api.Step{{Kind: api.Para, Label: "1"}}, 1<<16) },
			func(it *api.Item) { it.New = slices.Repeat([]string{"w"}, 1<<18) },
			func(it *api.Item) { it.Old = slices.Repeat([]string{"a"}, 1<<18) },
			func(it *api.Item) { it.Unit = huge },
			func(it *api.Item) { it.Label = strings.Repeat("1", 1<<16) },
			func(it *api.Item) { it.By = slices.Repeat([]api.Item{*it}, 1000) },
		} {
			bad := it
			change(&bad)
			got, errno := enact.Apply(u, by(act, item, bad))
			if errno != api.ErrArg || !unit.Equal(got, u) || len(enact.Affected(u, by(act, item, bad))) != 0 {
				t.Error(it.Kind, errno)
			}
		}
	}
}

// TestRandomTrees gives the functions random trees, most of which are no books, and random instructions, most of which are not valid.
func TestRandomTrees(t *testing.T) {
	r := rand.New(rand.NewSource(1))
	for range 3000 {
		u := randomUnit(r, r.Intn(9)-1, 4)
		for _, x := range places(&u) {
			x.u.Id = api.Id{N: r.Intn(6)}
			if r.Intn(9) == 0 {
				x.u.Kind = r.Intn(10) - 1
			}
		}
		it := randomItem(r, u)
		switch r.Intn(5) {
		case 0:
			it.Where = r.Intn(8) - 2
		case 1:
			it.Nth = r.Intn(5) - 2
		case 2:
			it.Kind = r.Intn(16) - 2
		}
		d := by(0, 0, it)
		got, errno := enact.Apply(u, d)
		all, failures := enact.ApplyAll(u, d)
		affected := enact.Affected(u, d)
		if !unit.Equal(got, all) || errno != api.OK && !unit.Equal(got, u) || (errno == api.OK) != (len(affected) > 0) {
			t.Fatal(about(d), errno, affected)
		}
		if syntax.IsAmendment(it.Kind) && errno != api.OK && !slices.Equal(failures, []api.Failure{{Why: errno}}) {
			t.Fatal(about(d), errno, failures)
		}
	}
}
