package unit_test

import (
	"fmt"
	"math"
	"math/rand"
	"slices"
	"strings"
	"testing"

	"pandect/api"
	"pandect/unit"
)

// someKinds are all kinds, and numbers that are not kinds.
var someKinds = []int{math.MinInt, -8, -1, api.Book, api.Part, api.Section, api.Para, api.Table, api.Row, api.Cell, api.Note, 8, 9, 100, math.MaxInt}

// allowed are the kinds of children that the document allows.
var allowed = map[int][]int{
	api.Book: {api.Part, api.Section}, api.Part: {api.Section}, api.Section: {api.Para, api.Table, api.Note}, api.Para: {api.Para, api.Table, api.Note}, api.Table: {api.Row}, api.Row: {api.Cell},
}

// bare returns a unit without ID, heading and words.
func bare(kind int, label string, kids ...api.Unit) api.Unit {
	return api.Unit{Kind: kind, Label: label, Kids: kids}
}

// rooted returns a valid unit of the kind, which may be the root of a tree.
func rooted(kind int, kids ...api.Unit) api.Unit {
	if kind == api.Book {
		return bare(kind, "", kids...)
	}
	return bare(kind, "1", kids...)
}

// with returns the unit with an ID.
func with(u api.Unit, id api.Id) api.Unit {
	u.Id = id
	return u
}

// numbered returns n units of the kind with the labels 1, 2, ....
func numbered(kind, n int) []api.Unit {
	var l []api.Unit
	for i := range n {
		l = append(l, bare(kind, fmt.Sprint(i+1)))
	}
	return l
}

// texts returns n words without marks.
func texts(n int) []api.Word {
	var l []api.Word
	for i := range n {
		l = append(l, api.Word{Text: fmt.Sprint("w", i)})
	}
	return l
}

// chain returns units nested in each other: the first kind is that of the root.
func chain(kinds ...int) api.Unit {
	if len(kinds) == 1 {
		return rooted(kinds[0])
	}
	return rooted(kinds[0], chain(kinds[1:]...))
}

// copyOf returns a copy that shares nothing with u.
func copyOf(u api.Unit) api.Unit {
	u.Head, u.Words, u.Kids = slices.Clone(u.Head), slices.Clone(u.Words), slices.Clone(u.Kids)
	for i := range u.Kids {
		u.Kids[i] = copyOf(u.Kids[i])
	}
	return u
}

// nodes returns pointers to all units of the tree in document order.
func nodes(u *api.Unit) []*api.Unit {
	l := []*api.Unit{u}
	for i := range u.Kids {
		l = append(l, nodes(&u.Kids[i])...)
	}
	return l
}

// withIDs returns a copy of the tree with different IDs; that of a book is zero.
func withIDs(u api.Unit) api.Unit {
	u = copyOf(u)
	for i, x := range nodes(&u) {
		x.Id = api.Id{Act: 7, Item: 2, N: i}
		if x.Kind == api.Book {
			x.Id = api.Id{}
		}
	}
	return u
}

// sample returns a valid tree with all kinds of units, with IDs and marks.
func sample() api.Unit {
	word := func(s string, at int) []api.Word {
		return []api.Word{{Text: s, By: api.Mark{Act: 7, Item: 2, At: at}}, {Text: s + ",", By: api.Mark{Act: 3}}}
	}
	table := bare(api.Table, "1", bare(api.Row, "1", numbered(api.Cell, 3)...), bare(api.Row, "2"))
	para := bare(api.Para, "1A", bare(api.Para, "1", bare(api.Note, "1")), table, bare(api.Note, "9999ZZZ"))
	section := bare(api.Section, "5", para, bare(api.Note, "1"), table)
	u := withIDs(bare(api.Book, "", bare(api.Part, "1", section, bare(api.Section, "6")), bare(api.Section, "5")))
	for i, x := range nodes(&u)[1:] {
		x.Head, x.Words = word("head", i), word("text", i+100)
	}
	return u
}

// P6.1: CanContain and KindName

func TestCanContain(t *testing.T) {
	for _, parent := range someKinds {
		for _, kind := range someKinds {
			if unit.CanContain(parent, kind) != slices.Contains(allowed[parent], kind) {
				t.Error(parent, kind)
			}
		}
	}
}

func TestKindName(t *testing.T) {
	names := []string{"book", "part", "section", "paragraph", "table", "row", "cell", "note"}
	for _, kind := range someKinds {
		want := ""
		if kind >= 0 && kind < len(names) {
			want = names[kind]
		}
		if got := unit.KindName(kind); got != want {
			t.Error(kind, got)
		}
	}
}

// P6.1: Valid

func TestValidSample(t *testing.T) {
	if !unit.Valid(sample()) || !unit.Valid(unit.Strip(sample())) {
		t.Error("sample")
	}
	section := bare(api.Section, "5", bare(api.Para, "1"), bare(api.Note, "1"))
	if !unit.Valid(section) || unit.Count(section) != 3 || unit.Depth(section) != 1 {
		t.Error("section")
	}
	section.Kids = append(section.Kids, bare(api.Para, "1"))
	if unit.Valid(section) || unit.Count(section) != 4 {
		t.Error("section with two paragraphs 1")
	}
}

func TestValidNesting(t *testing.T) {
	for _, parent := range someKinds {
		defined := parent >= api.Book && parent <= api.Note
		if unit.Valid(rooted(parent)) != defined || unit.IsBare(rooted(parent)) != defined {
			t.Error(parent)
		}
		for _, kind := range someKinds {
			if unit.Valid(rooted(parent, rooted(kind))) != slices.Contains(allowed[parent], kind) {
				t.Error(parent, kind)
			}
		}
	}
}

func TestValidLabel(t *testing.T) {
	for kind := api.Book; kind <= api.Note; kind++ {
		for _, label := range []string{"1", "12A", "9999", "9999ZZZ", "1AAA"} {
			if unit.Valid(bare(kind, label)) != (kind != api.Book) {
				t.Error(kind, label)
			}
		}
		for _, label := range []string{"0", "01", "10000", "1AAAA", "A", "1a", " 1", "1 ", "-1", "\x00", "1\xff", strings.Repeat("1", 1000)} {
			if unit.Valid(bare(kind, label)) {
				t.Errorf("%d %q", kind, label)
			}
		}
		if unit.Valid(bare(kind, "")) != (kind == api.Book) {
			t.Error(kind)
		}
	}
}

func TestValidWords(t *testing.T) {
	word := func(s string) []api.Word { return []api.Word{{Text: s}} }
	good := [][]api.Word{nil, {}, word("a"), word("!"), word("~"), word(strings.Repeat("a", 24)), texts(2), texts(255), texts(256), {{Text: "a", By: api.Mark{Act: -1, Item: math.MaxInt, At: math.MinInt}}}}
	bad := [][]api.Word{word(""), word(" "), word("a b"), word("\x7f"), word("\x20"), word("é"), word("\xff"), word(strings.Repeat("a", 25)), texts(257), texts(5000), append(texts(255), word("")...), append(word("a b"), texts(3)...), {{By: api.Mark{Act: 1}}}}
	for kind := api.Book; kind <= api.Note; kind++ {
		for i, l := range append(slices.Clone(good), bad...) {
			want := i < len(good) && (kind != api.Book || len(l) == 0)
			for k, u := range []api.Unit{rooted(kind), rooted(kind)} {
				u.Head = l
				if k == 1 {
					u.Head, u.Words = nil, l
				}
				if unit.Valid(u) != want {
					t.Error(kind, i, k)
				}
			}
		}
	}
	both := rooted(api.Section)
	both.Head, both.Words = texts(256), texts(256)
	if !unit.Valid(both) {
		t.Error("a full heading and a full text")
	}
}

func TestValidNumberOfChildren(t *testing.T) {
	for parent, kinds := range allowed {
		for _, kind := range kinds {
			for _, n := range []int{0, 1, 63, 64, 65, 66, 300} {
				if unit.Valid(rooted(parent, numbered(kind, n)...)) != (n <= 64) {
					t.Error(parent, kind, n)
				}
			}
		}
		for n := 30; n < 35; n++ {
			kids := slices.Concat(numbered(kinds[0], n), numbered(kinds[len(kinds)-1], 32))
			if want := len(kinds) > 1 && n <= 32; unit.Valid(rooted(parent, kids...)) != want {
				t.Error(parent, n)
			}
		}
	}
}

func TestValidSiblings(t *testing.T) {
	for i, c := range []struct {
		u    api.Unit
		want bool
	}{
		{bare(api.Section, "1", bare(api.Para, "1"), bare(api.Para, "1")), false},
		{bare(api.Section, "1", bare(api.Para, "1"), bare(api.Para, "2"), bare(api.Note, "1"), bare(api.Para, "1")), false},
		{bare(api.Section, "1", bare(api.Para, "1"), bare(api.Note, "1"), bare(api.Table, "1")), true},
		{bare(api.Section, "1", bare(api.Para, "1"), bare(api.Para, "1A"), bare(api.Para, "11")), true},
		{bare(api.Section, "1", bare(api.Para, "1", bare(api.Para, "1")), bare(api.Para, "2", bare(api.Para, "1"))), true},
		{bare(api.Book, "", bare(api.Section, "1"), bare(api.Part, "1", bare(api.Section, "1")), bare(api.Part, "2", bare(api.Section, "1"))), true},
		{bare(api.Book, "", bare(api.Part, "1", bare(api.Section, "1"), bare(api.Section, "1"))), false},
		{bare(api.Section, "2", bare(api.Para, "2"), bare(api.Para, "1")), true}, // in any order
		{bare(api.Row, "1", bare(api.Cell, "1"), bare(api.Cell, "1")), false},
	} {
		if unit.Valid(c.u) != c.want || unit.IsBare(c.u) != c.want || unit.Valid(withIDs(c.u)) != c.want {
			t.Error(i)
		}
	}
}

func TestValidDepth(t *testing.T) {
	for _, first := range [][]int{{api.Book, api.Part, api.Section}, {api.Book, api.Section}, {api.Part, api.Section}, {api.Section}, {api.Para}} {
		for _, last := range [][]int{{api.Para}, {api.Note}, {api.Table}, {api.Table, api.Row}, {api.Table, api.Row, api.Cell}} {
			for n := range 10 {
				u := chain(slices.Concat(first, slices.Repeat([]int{api.Para}, n), last)...)
				depth := len(first) + n + len(last) - 1
				if unit.Valid(u) != (depth <= 8) || unit.Depth(u) != depth || unit.Count(u) != depth+1 {
					t.Error(first, n, last, unit.Depth(u))
				}
			}
		}
	}
	wide := bare(api.Section, "1", numbered(api.Note, 5)...)
	wide.Kids = append(wide.Kids, chain(slices.Repeat([]int{api.Para}, 8)...))
	wide.Kids = append(wide.Kids, numbered(api.Table, 5)...)
	if unit.Depth(wide) != 8 || !unit.Valid(wide) {
		t.Error(unit.Depth(wide))
	}
	wide.Kids[5] = chain(slices.Repeat([]int{api.Para}, 9)...)
	if unit.Depth(wide) != 9 || unit.Valid(wide) {
		t.Error(unit.Depth(wide))
	}
}

func TestValidNumberOfUnits(t *testing.T) {
	for _, n := range []int{1000, 1023, 1024, 1025, 1026, 2000} {
		book := bare(api.Book, "", numbered(api.Section, 40)...)
		left := n - 41
		for i := range book.Kids {
			kids := min(left, 64)
			book.Kids[i].Kids = numbered(api.Para, kids)
			left -= kids
		}
		if left != 0 || unit.Count(book) != n || unit.Valid(book) != (n <= 1024) || unit.Valid(withIDs(book)) != (n <= 1024) || unit.IsBare(book) != (n <= 1024) {
			t.Error(n, left, unit.Count(book))
		}
	}
}

func TestValidIDs(t *testing.T) {
	x, y, z := api.Id{Act: 1, Item: 2, N: 3}, api.Id{Act: 1, Item: 2, N: 4}, api.Id{Act: -1, Item: math.MinInt, N: math.MaxInt}
	zero := api.Id{}
	near := []api.Id{{Act: 1}, {Item: 1}, {N: 1}}
	for i, c := range []struct {
		root, first, second api.Id
		book, section       bool
	}{
		{zero, zero, zero, true, true},
		{zero, x, y, true, false}, {zero, y, x, true, false}, {zero, x, z, true, false}, {zero, near[0], near[1], true, false}, {zero, near[1], near[2], true, false},
		{x, y, z, false, true}, {z, x, y, false, true},
		// One ID is zero, which is the only one of its kind.
		{x, zero, y, false, true}, {x, y, zero, false, true}, {near[2], near[1], zero, false, true},
		// Two IDs are equal.
		{zero, x, x, false, false}, {zero, zero, x, false, false}, {zero, x, zero, false, false}, {x, zero, zero, false, false}, {x, x, y, false, false}, {x, y, x, false, false}, {x, y, y, false, false}, {x, x, x, false, false}, {x, x, zero, false, false},
	} {
		kinds := []int{api.Book, api.Section}
		for k, want := range []bool{c.book, c.section} {
			kid := api.Section + k // a section of the book, a paragraph of the section
			siblings := rooted(kinds[k], with(bare(kid, "1"), c.first), with(bare(kid, "2"), c.second))
			nested := rooted(kinds[k], with(bare(kid, "1", with(bare(api.Para, "1"), c.second)), c.first))
			if unit.Valid(with(siblings, c.root)) != want || unit.Valid(with(nested, c.root)) != want {
				t.Error(i, k)
			}
		}
	}
	for kind := api.Book; kind <= api.Note; kind++ {
		for _, id := range append(near, x, z) {
			if !unit.Valid(rooted(kind)) || unit.Valid(with(rooted(kind), id)) != (kind != api.Book) {
				t.Error(kind, id)
			}
		}
	}
}

// TestValidEveryUnit breaks each unit of a valid tree in turn, in every way.
func TestValidEveryUnit(t *testing.T) {
	faults := map[string]func(u *api.Unit){
		"kind": func(u *api.Unit) { u.Kind = 8 }, "negative kind": func(u *api.Unit) { u.Kind = -1 }, "label": func(u *api.Unit) { u.Label = "0" }, "head": func(u *api.Unit) { u.Head = append(u.Head, api.Word{Text: "a b"}) }, "words": func(u *api.Unit) { u.Words = append(u.Words, api.Word{}) }, "many words": func(u *api.Unit) { u.Words = texts(257) }, "many heading words": func(u *api.Unit) { u.Head = texts(257) },
		"ID": func(u *api.Unit) { u.Id = api.Id{Act: 7, Item: 2, N: 4 + u.Id.N%2} }, "kid": func(u *api.Unit) { u.Kids = append(u.Kids, bare(api.Book, "")) },
		"twins":     func(u *api.Unit) { u.Kids = append(u.Kids, u.Kids...) },
		"many kids": func(u *api.Unit) { u.Kids = numbered(api.Para, 65) },
	}
	for name, fault := range faults {
		for i := range unit.Count(sample()) {
			u := sample()
			x := nodes(&u)[i]
			if name == "twins" && len(x.Kids) == 0 || name == "ID" && (i == 4 || i == 5) {
				continue
			}
			fault(x)
			if unit.Valid(u) || unit.IsBare(u) {
				t.Error(name, i)
			}
			if name == "ID" {
				continue
			}
			u = unit.Strip(u)
			if unit.Valid(u) || unit.IsBare(u) {
				t.Error(name, i)
			}
		}
	}
}

// P6.1: IsBare

func TestIsBare(t *testing.T) {
	if unit.IsBare(sample()) || !unit.IsBare(unit.Strip(sample())) || !unit.IsBare(api.Unit{}) {
		t.Error("sample")
	}
	// Valid trees with IDs, but no marks.
	for i, u := range []api.Unit{withIDs(unit.Strip(sample())), with(bare(api.Note, "1"), api.Id{N: 1}), with(bare(api.Section, "1", bare(api.Para, "1")), api.Id{Act: 1}), with(bare(api.Section, "1", with(bare(api.Para, "1"), api.Id{Item: 1})), api.Id{N: -1})} {
		if !unit.Valid(u) || unit.IsBare(u) || !unit.IsBare(unit.Strip(u)) {
			t.Error(i)
		}
	}
	marks := []api.Mark{{Act: 1}, {Item: 1}, {At: 1}, {Act: -1, Item: -1, At: -1}}
	for i := range unit.Count(sample()) {
		for _, id := range []api.Id{{Act: 1}, {Item: 1}, {N: 1}, {Act: -1}} {
			u := unit.Strip(sample())
			nodes(&u)[i].Id = id
			if unit.IsBare(u) {
				t.Error(i, id)
			}
		}
		if i == 0 {
			continue // the book has no words
		}
		for k := range 2 {
			for _, mark := range marks {
				u := unit.Strip(sample())
				nodes(&u)[i].Head[k].By = mark
				v := unit.Strip(sample())
				nodes(&v)[i].Words[k].By = mark
				if unit.IsBare(u) || unit.IsBare(v) || !unit.Valid(u) || !unit.Valid(v) {
					t.Error(i, k, mark)
				}
			}
		}
	}
}

// P6.2

// place is a unit, the place of its parent in a list (-1 for the root), its index among the children, and its depth.
type place struct {
	u                api.Unit
	parent, at, deep int
}

// flatten lists the units of a tree in document order. It goes through a stack of its own.
func flatten(u api.Unit) []place {
	var out []place
	stack := []place{{u, -1, -1, 0}}
	for len(stack) > 0 {
		p := stack[len(stack)-1]
		stack = stack[:len(stack)-1]
		for at, kid := range slices.Backward(p.u.Kids) {
			stack = append(stack, place{kid, len(out), at, p.deep + 1})
		}
		out = append(out, p)
	}
	return out
}

// checkTree compares all lookups and measures of the tree with the flat list of its units.
func checkTree(t *testing.T, u api.Unit, others ...api.Id) {
	t.Helper()
	l := flatten(u)
	depth := 0
	var ids []api.Id
	for _, p := range l {
		depth = max(depth, p.deep)
		ids = append(ids, p.u.Id)
	}
	if unit.Count(u) != len(l) || unit.Depth(u) != depth || !slices.Equal(unit.IDs(u), ids) {
		t.Error(unit.Count(u), unit.Depth(u), unit.IDs(u), ids)
	}
	for _, id := range append(slices.Clone(ids), others...) {
		checkLookup(t, u, l, id)
	}
}

// checkLookup looks for one unit of the tree whose flat list is l.
func checkLookup(t *testing.T, u api.Unit, l []place, id api.Id) {
	t.Helper()
	k := slices.IndexFunc(l, func(p place) bool { return p.u.Id == id })
	var wantUnit api.Unit
	var wantParent api.Id
	wantAt := -1
	var wantAncestors []api.Id
	if k >= 0 {
		wantUnit, wantAt = l[k].u, l[k].at
	}
	for i := k; i > 0; {
		i = l[i].parent
		wantAncestors = append(wantAncestors, l[i].u.Id)
	}
	if k > 0 {
		wantParent = wantAncestors[0]
	}
	if got, ok := unit.Find(u, id); ok != (k >= 0) || !unit.Equal(got, wantUnit) {
		t.Error(id, got, ok)
	}
	if parent, at, ok := unit.Parent(u, id); ok != (k > 0) || parent != wantParent || at != wantAt {
		t.Error(id, parent, at, ok)
	}
	if got := unit.Ancestors(u, id); !slices.Equal(got, wantAncestors) {
		t.Error(id, got, wantAncestors)
	}
}

func TestLookup(t *testing.T) {
	u := sample()
	checkTree(t, u, api.Id{}, api.Id{Act: 1}, api.Id{Act: 7, Item: 2, N: 1000}, api.Id{Act: -7, Item: -2, N: -1}, api.Id{Act: 2, Item: 7, N: 1})
	checkTree(t, unit.Strip(u), api.Id{Act: 7, Item: 2, N: 1})
	checkTree(t, api.Unit{}, api.Id{}, api.Id{N: 1})
	checkTree(t, with(bare(api.Section, "1", bare(api.Para, "1")), api.Id{Act: 1}), api.Id{Act: 2})
	id := func(n int) api.Id { return api.Id{Act: 7, Item: 2, N: n} }
	if unit.Count(u) != 22 || unit.Depth(u) != 6 {
		t.Error(unit.Count(u), unit.Depth(u))
	}
	// Paragraph 1A of section 5 of part 1.
	para, ok := unit.Find(u, id(3))
	if !ok || para.Kind != api.Para || para.Label != "1A" || para.Id != id(3) || len(para.Kids) != 3 || para.Kids[0].Kids[0].Kind != api.Note || para.Words[0].Text != "text" {
		t.Error(para, ok)
	}
	if parent, at, ok := unit.Parent(u, id(6)); parent != id(3) || at != 1 || !ok {
		t.Error(parent, at, ok)
	}
	if l := unit.Ancestors(u, id(8)); !slices.Equal(l, []api.Id{id(7), id(6), id(3), id(2), id(1), {}}) {
		t.Error(l)
	}
	if parent, at, ok := unit.Parent(u, id(1)); parent != (api.Id{}) || at != 0 || !ok {
		t.Error(parent, at, ok)
	}
}

// TestLookupOfEqualIDs looks for an ID that several units have.
func TestLookupOfEqualIDs(t *testing.T) {
	x, y := api.Id{Act: 1}, api.Id{Act: 2}
	mark := func(n int, kids ...api.Unit) api.Unit {
		return with(bare(api.Para, fmt.Sprint(n), kids...), x)
	}
	for i, u := range []api.Unit{
		with(bare(api.Section, "1", mark(1), mark(2)), y),
		with(bare(api.Section, "1", with(bare(api.Para, "1", mark(2)), y), mark(3)), y),
		with(bare(api.Section, "1", bare(api.Para, "7"), mark(1, mark(2)), mark(3)), y),
		with(bare(api.Section, "1", mark(1), mark(2)), x),
		bare(api.Book, "", bare(api.Section, "1"), mark(2)),
		bare(-5, "no label", mark(2), mark(2), bare(99, "", mark(3), mark(4))),
	} {
		checkTree(t, u, x, y, api.Id{})
		if _, at, ok := unit.Parent(u, u.Id); at != -1 || ok {
			t.Error(i)
		}
	}
}

// randomTree returns a tree that is seldom valid.
func randomTree(r *rand.Rand, deep int) api.Unit {
	words := func() []api.Word {
		return []api.Word{{Text: "a"}, {Text: "b c", By: api.Mark{Act: r.Intn(3)}}}[:r.Intn(3)]
	}
	u := api.Unit{Id: api.Id{Act: r.Intn(3), Item: r.Intn(2), N: r.Intn(4)}, Kind: r.Intn(10) - 1, Label: fmt.Sprint(r.Intn(4)), Head: words(), Words: words()}
	for range r.Intn(4) {
		if deep > 0 {
			u.Kids = append(u.Kids, randomTree(r, deep-1))
		}
	}
	return u
}

func TestLookupModel(t *testing.T) {
	r := rand.New(rand.NewSource(6))
	for range 300 {
		u := randomTree(r, r.Intn(6))
		checkTree(t, u, api.Id{}, api.Id{Act: 9})
		if copied := copyOf(u); !unit.Equal(u, copied) || !unit.Equal(unit.Strip(u), unit.Strip(copied)) {
			t.Error(u)
		}
	}
}

// TestDeepTree gives trees with 2^16 levels to every function.
func TestDeepTree(t *testing.T) {
	const levels = 1 << 16
	u := with(bare(api.Para, "1"), api.Id{N: levels})
	for n := levels - 1; n > 0; n-- {
		u = with(bare(api.Para, "1", u), api.Id{N: n})
	}
	if unit.Valid(u) || unit.IsBare(u) || unit.Count(u) != levels || unit.Depth(u) != levels-1 {
		t.Error(unit.Count(u), unit.Depth(u))
	}
	if x, ok := unit.Find(u, api.Id{N: levels}); !ok || x.Id.N != levels || len(x.Kids) != 0 {
		t.Error(x.Id, ok)
	}
	if x, ok := unit.Find(u, api.Id{N: 1}); !ok || !unit.Equal(x, u) {
		t.Error(x.Id, ok)
	}
	if parent, at, ok := unit.Parent(u, api.Id{N: levels}); !ok || at != 0 || parent.N != levels-1 {
		t.Error(parent, at, ok)
	}
	if l := unit.Ancestors(u, api.Id{N: levels}); len(l) != levels-1 || l[0].N != levels-1 {
		t.Error(len(l))
	}
	if l := unit.IDs(u); len(l) != levels || l[levels-1].N != levels {
		t.Error(len(l))
	}
	if unit.Equal(unit.Strip(u), u) {
		t.Error("not stripped")
	}
}

// P6.3

func TestStrip(t *testing.T) {
	u := sample()
	got, want := unit.Strip(u), copyOf(u)
	for _, x := range nodes(&want) {
		x.Id = api.Id{}
		for _, l := range [][]api.Word{x.Head, x.Words} {
			for i := range l {
				l[i] = api.Word{Text: l[i].Text}
			}
		}
	}
	if !unit.Equal(got, want) || !unit.Equal(unit.Strip(got), want) || !unit.Equal(u, sample()) {
		t.Error(got)
	}
	if odd := unit.Strip(api.Unit{Id: api.Id{Act: 1}, Kind: -3, Label: "\xff", Words: []api.Word{{Text: "a b", By: api.Mark{At: 1}}}}); !unit.Equal(odd, api.Unit{Kind: -3, Label: "\xff", Words: []api.Word{{Text: "a b"}}}) {
		t.Error(odd)
	}
}

// TestEqual changes each unit of a tree in turn, in every way.
func TestEqual(t *testing.T) {
	changes := []func(u *api.Unit){
		func(u *api.Unit) { u.Id.Act++ }, func(u *api.Unit) { u.Id.Item++ }, func(u *api.Unit) { u.Id.N++ }, func(u *api.Unit) { u.Kind++ }, func(u *api.Unit) { u.Label += "A" },
		func(u *api.Unit) { u.Head = append(u.Head, api.Word{Text: "a"}) }, func(u *api.Unit) { u.Words = append(u.Words, api.Word{Text: "a"}) }, func(u *api.Unit) { u.Kids = append(u.Kids, bare(api.Note, "77")) },
	}
	changeWords := []func(l []api.Word){
		func(l []api.Word) { l[0].Text += "x" }, func(l []api.Word) { l[1].By.Act++ }, func(l []api.Word) { l[0].By.Item++ }, func(l []api.Word) { l[1].By.At++ }, func(l []api.Word) { l[0], l[1] = l[1], l[0] },
	}
	for _, change := range changeWords {
		changes = append(changes, func(u *api.Unit) { change(u.Head) }, func(u *api.Unit) { change(u.Words) })
	}
	changes = append(changes, func(u *api.Unit) { u.Head = u.Head[:1] }, func(u *api.Unit) { u.Words = u.Words[1:] })
	for i := range unit.Count(sample()) {
		for k, change := range changes {
			u := sample()
			if i == 0 && k >= 8 {
				break // the book has no words
			}
			change(nodes(&u)[i])
			if unit.Equal(u, sample()) || unit.Equal(sample(), u) || !unit.Equal(u, copyOf(u)) {
				t.Error(i, k)
			}
		}
		u := sample()
		if x := nodes(&u)[i]; len(x.Kids) > 0 {
			x.Kids = x.Kids[:len(x.Kids)-1]
			if unit.Equal(u, sample()) || unit.Equal(sample(), u) {
				t.Error(i)
			}
		}
		u = sample()
		if x := nodes(&u)[i]; len(x.Kids) > 1 {
			slices.Reverse(x.Kids)
			if unit.Equal(u, sample()) {
				t.Error(i)
			}
		}
	}
	if !unit.Equal(sample(), sample()) || !unit.Equal(api.Unit{}, api.Unit{Head: []api.Word{}, Words: []api.Word{}, Kids: []api.Unit{}}) || !unit.Equal(api.Unit{Kids: []api.Unit{}}, api.Unit{}) {
		t.Error("equal trees")
	}
	// The words of the heading are not those of the text.
	if unit.Equal(api.Unit{Head: texts(1)}, api.Unit{Words: texts(1)}) {
		t.Error("head and words")
	}
}

// spoil overwrites everything in a tree, up to the capacities.
func spoil(u api.Unit) {
	for _, l := range [][]api.Word{u.Head[:cap(u.Head)], u.Words[:cap(u.Words)]} {
		for i := range l {
			l[i] = api.Word{Text: "spoiled"}
		}
	}
	kids := u.Kids[:cap(u.Kids)]
	for i := range kids {
		spoil(kids[i])
		kids[i] = api.Unit{Label: "spoiled"}
	}
}

// roomy returns a copy of the tree whose lists have spare capacity.
func roomy(u api.Unit) api.Unit {
	u.Head = append(make([]api.Word, 0, len(u.Head)+3), u.Head...)
	u.Words = append(make([]api.Word, 0, len(u.Words)+3), u.Words...)
	kids := make([]api.Unit, 0, len(u.Kids)+3)
	for _, kid := range u.Kids {
		kids = append(kids, roomy(kid))
	}
	u.Kids = kids
	return u
}

// spare reports whether the spare capacity of all lists of the tree is unused.
func spare(u api.Unit) bool {
	for _, l := range [][]api.Word{u.Head, u.Words} {
		for _, w := range l[len(l):cap(l)] {
			if w != (api.Word{}) {
				return false
			}
		}
	}
	for _, kid := range u.Kids[len(u.Kids):cap(u.Kids)] {
		if !unit.Equal(kid, api.Unit{}) {
			return false
		}
	}
	return !slices.ContainsFunc(u.Kids, func(kid api.Unit) bool { return !spare(kid) })
}

// TestArgumentsAndResults changes each result, up to its capacities, and looks at the arguments and at another result.
func TestArgumentsAndResults(t *testing.T) {
	u := roomy(sample())
	unit.Valid(u)
	unit.IsBare(u)
	unit.Equal(u, u)
	unit.Count(u)
	unit.Depth(u)
	spoil(unit.Strip(u))
	ids := unit.IDs(u)
	want := slices.Clone(ids)
	clear(ids[:cap(ids)])
	if !slices.Equal(unit.IDs(u), want) {
		t.Error(unit.IDs(u))
	}
	for _, id := range want {
		x, _ := unit.Find(u, id)
		spoil(x)
		unit.Parent(u, id)
		l := unit.Ancestors(u, id)
		clear(l[:cap(l)])
		checkLookup(t, u, flatten(u), id)
	}
	if !unit.Equal(u, sample()) || !spare(u) {
		t.Error("changed")
	}
	// The parts of a result share nothing with each other.
	for _, x := range []api.Unit{unit.Strip(u), mustFind(u, api.Id{}), mustFind(u, want[3])} {
		before := copyOf(x)
		all := nodes(&x)
		for i, part := range all[1:] {
			kids := part.Kids
			part.Kids = nil
			spoil(*part)
			old := nodes(&before)[i+1]
			copy(part.Head, old.Head)
			copy(part.Words, old.Words)
			part.Kids = kids
			if !unit.Equal(x, before) {
				t.Fatal(i)
			}
		}
	}
}

// mustFind returns the unit with the ID.
func mustFind(u api.Unit, id api.Id) api.Unit {
	x, _ := unit.Find(u, id)
	return x
}

// P6.4

func TestConsequences(t *testing.T) {
	valid := []api.Unit{sample(), api.Unit{}, withIDs(bare(api.Book, "", numbered(api.Section, 64)...)), withIDs(chain(api.Section, api.Para, api.Para, api.Table, api.Row, api.Cell)), chain(api.Table, api.Row, api.Cell), with(bare(api.Note, "1"), api.Id{Act: 1}), with(bare(api.Section, "1", bare(api.Para, "1")), api.Id{N: 1})}
	r := rand.New(rand.NewSource(64))
	for len(valid) < 60 {
		if u := randomTree(r, 2); unit.Valid(u) {
			valid = append(valid, u)
		}
	}
	for i, u := range valid {
		if !unit.Valid(u) || !unit.IsBare(unit.Strip(u)) {
			t.Error(i)
		}
		if i < 3 {
			checkTree(t, u)
		}
		for _, id := range unit.IDs(u) {
			x, ok := unit.Find(u, id)
			if !ok || x.Id != id {
				t.Error(i, id)
			}
			for _, ancestor := range unit.Ancestors(u, id) {
				y, ok := unit.Find(u, ancestor)
				if _, inside := unit.Find(y, id); !ok || y.Id != ancestor || !inside {
					t.Error(i, id, ancestor)
				}
			}
		}
	}
}
