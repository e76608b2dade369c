package footprint_test

import (
	"math/rand"
	"slices"
	"strings"
	"testing"

	"pandect/api"
	"pandect/footprint"
	"pandect/syntax"
	"pandect/unit"
)

// Arguments and results

// spoil overwrites everything in a tree, up to the capacities.
func spoil(u api.Unit) {
	for _, l := range [][]api.Word{u.Head[:cap(u.Head)], u.Words[:cap(u.Words)]} {
		for i := range l {
			l[i] = api.Word{Text: "spoiled", By: api.Mark{Act: -9}}
		}
	}
	kids := u.Kids[:cap(u.Kids)]
	for i := range kids {
		spoil(kids[i])
		kids[i] = api.Unit{Label: "spoiled"}
	}
}

// spoilItem overwrites everything in an instruction, up to the capacities.
func spoilItem(it api.Item) {
	for _, p := range [][]api.Step{it.At[:cap(it.At)], it.To[:cap(it.To)]} {
		for i := range p {
			p[i] = api.Step{Kind: -9}
		}
	}
	for _, l := range [][]string{it.Old[:cap(it.Old)], it.New[:cap(it.New)]} {
		for i := range l {
			l[i] = "spoiled"
		}
	}
	spoil(it.Unit)
}

// spoilKeys overwrites a list of keys, up to its capacity.
func spoilKeys(l []api.Key) {
	l = l[:cap(l)]
	for i := range l {
		l[i] = api.Key{Kind: -9}
	}
}

// roomy returns a copy of the list that has spare capacity.
func roomy[T any](l []T) []T { return append(make([]T, 0, len(l)+3), l...) }

// isUnused reports whether the spare capacity of the list is unused.
func isUnused[T any](l []T, isZero func(x T) bool) bool {
	return !slices.ContainsFunc(l[len(l):cap(l)], func(x T) bool { return !isZero(x) })
}

// roomyTree returns a copy of the tree whose lists have spare capacity.
func roomyTree(u api.Unit) api.Unit {
	u.Head, u.Words, u.Kids = roomy(u.Head), roomy(u.Words), roomy(u.Kids)
	for i := range u.Kids {
		u.Kids[i] = roomyTree(u.Kids[i])
	}
	return u
}

// roomyItem returns a copy of the instruction whose lists have spare capacity.
func roomyItem(it api.Item) api.Item {
	it.At, it.To, it.Unit, it.Old, it.New = roomy(it.At), roomy(it.To), roomyTree(it.Unit), roomy(it.Old), roomy(it.New)
	return it
}

// unused reports whether the spare capacity of all lists of the tree is unused.
func unused(u api.Unit) bool {
	isZeroWord := func(w api.Word) bool { return w == api.Word{} }
	return isUnused(u.Head, isZeroWord) && isUnused(u.Words, isZeroWord) && isUnused(u.Kids, func(x api.Unit) bool { return unit.Equal(x, api.Unit{}) }) &&
		!slices.ContainsFunc(u.Kids, func(x api.Unit) bool { return !unused(x) })
}

// unusedItem reports whether the spare capacity of all lists of the instruction is unused.
func unusedItem(it api.Item) bool {
	isZeroStep := func(s api.Step) bool { return s == api.Step{} }
	isEmpty := func(s string) bool { return s == "" }
	return isUnused(it.At, isZeroStep) && isUnused(it.To, isZeroStep) && isUnused(it.Old, isEmpty) && isUnused(it.New, isEmpty) && unused(it.Unit)
}

// variety returns items of every kind, with an effect and without.
func variety() []api.EnactedItem {
	l := []api.EnactedItem{insertion("ahead of section 3", "section 9: x | y z", "  paragraph 1 | w", "  note 1: v"), insertion("behind all", "section 9")}
	for _, it := range slices.Concat(valid(), invalid()) {
		l = append(l, by(act, item, it))
	}
	for _, text := range []string{"repeal part 1", "move part 1 into all last", "move section 3 into section 77 last", "repeal section 1", "number all as 9", `head section 3 as "x y"`} {
		l = append(l, do(text))
	}
	return l
}

// TestArgumentsAndResults changes each result, up to its capacity, and looks at the arguments and at other results, then the arguments, and looks at the results.
func TestArgumentsAndResults(t *testing.T) {
	for i, d := range variety() {
		kept := variety()[i].It
		u := roomyTree(sample())
		d.It = roomyItem(d.It)
		wantR, wantW := wantReads(u, d), wantWrites(u, d)
		reads, writes := footprint.Reads(u, d), footprint.Writes(u, d)
		otherReads, otherWrites := footprint.Reads(u, d), footprint.Writes(u, d)
		spoilKeys(reads)
		spoilKeys(writes)
		footprint.Independent(u, d, do("repeal section 3"))
		if !unit.Equal(u, sample()) || !unused(u) || !syntax.Equal(d.It, kept) || !unusedItem(d.It) {
			t.Fatal(about(d), "modifies an argument")
		}
		if !slices.Equal(footprint.Reads(u, d), wantR) || !slices.Equal(footprint.Writes(u, d), wantW) {
			t.Fatal(about(d), "results are kept")
		}
		spoil(u)
		spoilItem(d.It)
		if !slices.Equal(otherReads, wantR) || !slices.Equal(otherWrites, wantW) {
			t.Fatal(about(d), "keeps an argument, or results share memory")
		}
	}
}

// TestIntersectKeepsNothing expects the lists as they were.
func TestIntersectKeepsNothing(t *testing.T) {
	text := "name note 1, kids 1.2.3, kids 1.2.3, words 0.0.0"
	a, b := roomy(keysOf(text)), roomy(keysOf("head 1.2.3, "+text))
	isZero := func(k api.Key) bool { return k == api.Key{} }
	if !footprint.Intersect(a, b) || !slices.Equal(a, keysOf(text)) || !slices.Equal(b, keysOf("head 1.2.3, "+text)) || !isUnused(a, isZero) || !isUnused(b, isZero) {
		t.Error(a, b)
	}
	spoilKeys(a)
	if footprint.Intersect(a, b) || footprint.Intersect(b, a) {
		t.Error("keys are kept")
	}
}

// P1: all arguments

// oddTrees returns trees that are no books.
func oddTrees() []api.Unit {
	deep := tree("paragraph 1 | a")
	for n := range 1 << 12 {
		deep = api.Unit{Id: number(n + 2), Kind: api.Para, Label: "1", Kids: []api.Unit{deep}}
	}
	section := api.Unit{Id: number(1), Kind: api.Section, Label: "1", Words: slices.Repeat([]api.Word{{Text: "a b"}, {Text: "a"}}, 300)}
	wide := api.Unit{Kids: slices.Repeat([]api.Unit{section}, 300)}
	double := sample()
	double.Kids[0].Id = double.Kids[1].Id
	zero := sample()
	zero.Kids[1].Id = api.Id{}
	return []api.Unit{deep, wide, section, double, zero, unit.Strip(sample()), {Kind: 77, Label: "x"}, {Kind: -1, Kids: []api.Unit{{}, {Kids: []api.Unit{{}}}}}, {Label: "1"}, {Id: number(1)}}
}

// TestOddTrees gives the functions trees that are no books. No amendment can take effect then; the read set contains the names at least.
func TestOddTrees(t *testing.T) {
	l := variety()
	for _, text := range []string{"repeal %", `in % for "a" put "b" each`, `in % ahead of all put "b"`, `head % as "x"`, "number % as 2", "move % behind %", "move % into all last", `into % first insert "paragraph 8` + "\n\"", `behind % insert "section 8` + "\n\""} {
		for _, at := range []string{"all", "section 1", "paragraph 1", "book section 1", "section 77 paragraph 1"} {
			l = append(l, do(strings.ReplaceAll(text, "%", at)))
		}
	}
	for i, u := range oddTrees() {
		for _, d := range l {
			var names []api.Key
			if isAmendment(d.It) {
				for _, s := range slices.Concat(d.It.At, d.It.To) {
					if s != (api.Step{}) {
						names = append(names, api.Key{Kind: api.KeyName, Name: s})
					}
				}
			}
			reads := footprint.Reads(u, d)
			if slices.ContainsFunc(names, func(k api.Key) bool { return !slices.Contains(reads, k) }) || !slices.IsSortedFunc(reads, func(a, b api.Key) int {
				if isLess(a, b) {
					return -1
				}
				return 1
			}) {
				t.Error(i, about(d), texts(reads))
			}
			if writes := footprint.Writes(u, d); len(writes) != 0 {
				t.Error(i, about(d), texts(writes))
			}
		}
		a, b := l[0], l[1]
		b.Act++
		if footprint.Independent(u, a, a) || !footprint.Independent(u, a, b) {
			t.Error(i)
		}
	}
}

// TestHugeArguments gives the functions instructions with long lists, and keys with long labels.
func TestHugeArguments(t *testing.T) {
	u := sample()
	huge := oddTrees()[0]
	for _, it := range valid() {
		for _, change := range []func(it *api.Item){
			func(it *api.Item) { it.At = slices.Repeat([]api.Step{{Kind: api.Para, Label: "1"}}, 1<<16) },
			func(it *api.Item) { it.To = slices.Repeat([]api.Step{{Kind: api.Para, Label: "1"}}, 1<<16) },
			func(it *api.Item) { it.New = slices.Repeat([]string{"w"}, 1<<16) },
			func(it *api.Item) { it.Old = slices.Repeat([]string{"a"}, 1<<16) },
			func(it *api.Item) { it.Unit = huge },
			func(it *api.Item) { it.Label = strings.Repeat("1", 1<<16) },
			func(it *api.Item) { it.By = slices.Repeat([]api.Item{*it}, 1000) },
		} {
			bad := it
			change(&bad)
			expect(t, u, by(act, item, bad), "", "")
		}
	}
	long := api.Key{Kind: api.KeyName, Name: api.Step{Kind: api.Part, Label: strings.Repeat("1", 1<<16)}}
	if footprint.FormatKey(long) != "name " || !footprint.Intersect([]api.Key{{}, long}, slices.Repeat([]api.Key{long}, 1<<16)) {
		t.Error("long label")
	}
}

// TestRandomTrees gives the functions random trees, most of which are no books, and random instructions, most of which are not valid.
func TestRandomTrees(t *testing.T) {
	r := rand.New(rand.NewSource(1))
	for range 2000 {
		u := randomUnit(r, r.Intn(9)-1, 4)
		for _, x := range places(&u) {
			x.u.Id = api.Id{N: r.Intn(6)}
			if r.Intn(9) == 0 {
				x.u.Kind = r.Intn(10) - 1
			}
		}
		it := randomItem(r, u)
		switch r.Intn(4) {
		case 0:
			it.Where = r.Intn(8) - 2
		case 1:
			it.Nth = r.Intn(5) - 2
		case 2:
			it.Kind = r.Intn(16) - 2
		}
		d := by(0, 0, it)
		if reads := footprint.Reads(u, d); !syntax.Valid(it) && len(reads) != 0 {
			t.Fatal(about(d), texts(reads))
		}
		if got, want := footprint.Writes(u, d), wantWrites(u, d); !slices.Equal(got, want) {
			t.Fatal(about(d), texts(got), texts(want))
		}
	}
}
