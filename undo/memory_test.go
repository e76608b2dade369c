package undo_test

import (
	"math"
	"math/rand"
	"slices"
	"strings"
	"testing"

	"pandect/api"
	"pandect/enact"
	"pandect/syntax"
	"pandect/undo"
	"pandect/unit"
	"pandect/wording"
)

// Arguments and results

// spoilWords overwrites words up to the capacity.
func spoilWords(l []api.Word) {
	l = l[:cap(l)]
	for i := range l {
		l[i] = word("spoiled", -9, -9, -9)
	}
}

// spoil overwrites everything in a tree, up to the capacities.
func spoil(u api.Unit) {
	spoilWords(u.Head)
	spoilWords(u.Words)
	kids := u.Kids[:cap(u.Kids)]
	for i := range kids {
		spoil(kids[i])
		kids[i] = api.Unit{Label: "spoiled"}
	}
}

// spoilPatch overwrites everything that a patch refers to.
func spoilPatch(p api.Patch) {
	spoil(p.Unit)
	spoilWords(p.Words)
}

// spoilItem overwrites everything that an instruction refers to.
func spoilItem(it api.Item) {
	for _, p := range [][]api.Step{it.At, it.To} {
		for i := range p {
			p[i] = api.Step{Kind: -9}
		}
	}
	for _, l := range [][]string{it.Old, it.New} {
		for i := range l {
			l[i] = "spoiled"
		}
	}
	spoil(it.Unit)
}

// roomy returns a copy of the list that has spare capacity.
func roomy[T any](l []T) []T { return append(make([]T, 0, len(l)+3), l...) }

// roomyTree returns a copy of the tree whose lists have spare capacity.
func roomyTree(u api.Unit) api.Unit {
	u.Head, u.Words, u.Kids = roomy(u.Head), roomy(u.Words), roomy(u.Kids)
	for i := range u.Kids {
		u.Kids[i] = roomyTree(u.Kids[i])
	}
	return u
}

// unusedWords reports whether the spare capacity of the list is unused.
func unusedWords(l []api.Word) bool {
	return !slices.ContainsFunc(l[len(l):cap(l)], func(w api.Word) bool { return w != api.Word{} })
}

// unused reports whether the spare capacity of all lists of the tree is unused.
func unused(u api.Unit) bool {
	spare := u.Kids[len(u.Kids):cap(u.Kids)]
	return unusedWords(u.Head) && unusedWords(u.Words) && !slices.ContainsFunc(spare, func(x api.Unit) bool { return !isZero(x) }) && !slices.ContainsFunc(u.Kids, func(x api.Unit) bool { return !unused(x) })
}

// variety returns items of every kind with an effect on the sample, and some that fail.
func variety() []api.EnactedItem {
	l := []api.EnactedItem{
		insertion("ahead of section 3", "section 9: x | y z", "  paragraph 1 | w", "  note 1: v"), do("repeal section 3"), do("repeal part 1"), do(`in section 3 for "a" put "c d" each`), do(`in section 3 behind "b" put "c" at 2`), do(`in section 3 ahead of all put "c"`),
		do(`head section 3 as "x y"`), do(`head section 3 as ""`), do("number section 3 as 9"), do("move section 3 into part 1 first"), do("move section 3 behind section 3"), do("move part 1 into all last"),
	}
	for _, errno := range []api.Errno{api.ErrArg, api.ErrNoTarget, api.ErrKind, api.ErrMissing} {
		l = append(l, failing()[errno]...)
	}
	return l
}

// TestMemoryOfItems changes the results of Inverse and ApplyAll, up to their capacities, and looks at the arguments and at other results, then the arguments, and looks at the results.
func TestMemoryOfItems(t *testing.T) {
	for i, d := range variety() {
		kept := variety()[i].It
		u := roomyTree(sample())
		want, _ := undo.Inverse(sample(), d)
		wantTree, _ := enact.Apply(sample(), d)
		p, _ := undo.Inverse(u, d)
		q, _ := undo.Inverse(u, d)
		one, l := undo.ApplyAll(u, d)
		two, m := undo.ApplyAll(u, d)
		nothing, _ := undo.ApplyAll(u)
		spoilPatch(p)
		spoil(one)
		if len(l) > 0 && !samePatch(l[0], want) {
			t.Fatal(about(d), "results share memory")
		}
		for i := range l {
			spoilPatch(l[i])
			l[i] = api.Patch{Kind: -9}
		}
		if !unit.Equal(u, sample()) || !unused(u) || !syntax.Equal(d.It, kept) {
			t.Fatal(about(d), "shares memory with an argument")
		}
		spoil(u)
		spoilItem(d.It)
		if !samePatch(q, want) || !unit.Equal(two, wantTree) || len(m) > 0 && !samePatch(m[0], want) || !unit.Equal(nothing, sample()) {
			t.Fatal(about(d), "keeps an argument, or results share memory")
		}
	}
}

// TestMemoryOfPatches does the same for Revert and RevertAll.
func TestMemoryOfPatches(t *testing.T) {
	u := sample()
	l := []api.Patch{{Kind: 6}, {Kind: api.PatchInserted, Id: unknown}, {Kind: api.PatchInserted, Id: number(14)}, {Kind: api.PatchLabel, Id: number(14), Label: "9"}, {Kind: api.PatchMoved, Id: number(14), At: 1}}
	for _, kind := range []int{api.PatchWords, api.PatchHead} {
		l = append(l, api.Patch{Kind: kind, Id: number(14), Words: []api.Word{word("p", 5, 6, 7), word("q", 5, 6, 8)}})
	}
	x := wording.Stamp(bare("section 9: x | y z", "  paragraph 1 | w", "  note 1: v"), 9, 9)
	l = append(l, api.Patch{Kind: api.PatchRemoved, Id: x.Id, At: 2, Unit: x}, api.Patch{Kind: api.PatchRemoved, Parent: number(14), Unit: x})
	for i, p := range l {
		kept := copyOfPatch(p)
		want, _ := layer8(copyOf(u), kept)
		v := roomyTree(u)
		p.Unit, p.Words = roomyTree(p.Unit), roomy(p.Words)
		one, _ := undo.Revert(v, p)
		two, _ := undo.Revert(v, p)
		three, _ := undo.RevertAll(v, p)
		four, _ := undo.RevertAll(v, p)
		nothing, _ := undo.RevertAll(v)
		spoil(one)
		spoil(three)
		if !unit.Equal(v, u) || !unused(v) || !samePatch(p, kept) || !unused(p.Unit) || !unusedWords(p.Words) {
			t.Fatal(i, "shares memory with an argument")
		}
		spoil(v)
		spoilPatch(p)
		if !unit.Equal(two, want) || !unit.Equal(four, want) || !unit.Equal(nothing, u) {
			t.Fatal(i, "keeps an argument, or results share memory")
		}
	}
}

// TestPatchesShareNothing changes the patches of one call one by one, and looks at the others and at the book.
func TestPatchesShareNothing(t *testing.T) {
	l := []api.EnactedItem{do(`in section 3 for "a" put "c" at 1`), do(`in section 3 for "a" put "c" at 1`), do(`head section 3 as "x"`), do(`head section 3 as "y"`), do("move section 3 into part 1 first"), do("repeal section 3"), do("repeal part 1")}
	for i := range l {
		l[i].Act = 10 + i
	}
	after, patches := undo.ApplyAll(sample(), l...)
	kept := copyOf(after)
	want := make([]api.Patch, len(patches))
	for i, p := range patches {
		want[i] = copyOfPatch(p)
	}
	for i := range patches {
		spoilPatch(patches[i])
		for k := i + 1; k < len(patches); k++ {
			if !samePatch(patches[k], want[k]) {
				t.Fatal(i, k)
			}
		}
	}
	if len(patches) != len(l) || !unit.Equal(after, kept) {
		t.Error(len(patches), after)
	}
}

// P1: all arguments

// TestOddArguments gives the functions trees that are no books, patches with large trees and long lists, and items that are not valid.
func TestOddArguments(t *testing.T) {
	deep := wording.Stamp(bare("paragraph 1 | a"), 5, 5)
	for n := range 1 << 16 {
		deep = api.Unit{Id: number(n + 2), Kind: api.Para, Label: "1", Kids: []api.Unit{deep}}
	}
	double := sample()
	double.Kids[0].Id = double.Kids[1].Id
	trees := []api.Unit{deep, double, unit.Strip(sample()), {Kind: 77, Label: "x"}, {Kind: -1, Kids: []api.Unit{{}, {Kids: []api.Unit{{}}}}}, {Label: "1"}, {Id: number(1)}, {Kids: slices.Repeat([]api.Unit{{}}, 5000)}}
	long := slices.Repeat([]api.Word{{Text: "w"}}, 1<<16)
	for i, u := range trees {
		for _, d := range variety()[:12] {
			p, errno := undo.Inverse(u, d)
			after, l := undo.ApplyAll(u, d, d)
			if errno == api.OK || !samePatch(p, api.Patch{}) || !unit.Equal(after, u) || len(l) != 0 {
				t.Error(i, about(d), errno)
			}
		}
		for kind := api.PatchInserted; kind <= api.PatchHead; kind++ {
			p := api.Patch{Kind: kind, At: math.MaxInt, Id: number(2), Parent: u.Id, Unit: deep, Label: strings.Repeat("1", 1<<16), Words: long}
			for _, v := range []api.Unit{u, sample()} {
				want, e := layer8(v, p)
				one, errno := undo.Revert(v, p)
				two, again := undo.RevertAll(v, p, p)
				if errno != e || !unit.Equal(one, want) || again == api.OK || !isZero(two) {
					t.Error(i, kind, errno, again)
				}
			}
			if text := undo.Format(p); text == "" {
				t.Error(kind)
			}
		}
	}
}

// TestRandomPatches reverts random patches on random books.
func TestRandomPatches(t *testing.T) {
	r := rand.New(rand.NewSource(2))
	for range 3000 {
		u := books()[r.Intn(4)]
		ids := append(unit.IDs(u), unknown)
		some := func() api.Id { return ids[r.Intn(len(ids))] }
		x := wording.Stamp(bare([]string{"section 9 | a", "paragraph 9 | b", "note 1", "part 1"}[r.Intn(4)]), 9, r.Intn(2))
		p := api.Patch{Kind: r.Intn(8) - 1, At: r.Intn(5) - 1, Id: some(), Parent: some(), Unit: x, Label: []string{"1", "2", "9", "x"}[r.Intn(4)], Words: x.Words}
		_, errno := layer8(u, p)
		checkRevert(t, u, p, errno)
	}
}
