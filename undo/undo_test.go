package undo_test

import (
	"fmt"
	"math"
	"math/rand"
	"slices"
	"strings"
	"testing"

	"pandect/address"
	"pandect/api"
	"pandect/enact"
	"pandect/plaintext"
	"pandect/syntax"
	"pandect/token"
	"pandect/treeedit"
	"pandect/undo"
	"pandect/unit"
	"pandect/wording"
)

// Samples.

// number returns the ID of the unit on line n of the text of a tree. That of a book is zero.
func number(n int) api.Id { return api.Id{Act: 3, Item: 1, N: n + 1} }

// unknown is an ID that no tree of these tests has.
var unknown = api.Id{Act: -77, Item: 3, N: -1}

// bare returns the tree with that text.
func bare(lines ...string) api.Unit {
	u, _, errno := plaintext.Parse(strings.Join(lines, "\n") + "\n")
	if errno != api.OK {
		panic(fmt.Sprint(errno, lines))
	}
	return u
}

// tree returns the tree with that text, with IDs and marks of act 3 and item 1.
func tree(lines ...string) api.Unit {
	u := wording.Stamp(bare(lines...), 3, 1)
	if u.Kind == api.Book {
		u.Id = api.Id{}
	}
	return u
}

// times returns n times the line, with the numbers from 1 on behind it.
func times(n int, line string) []string {
	var l []string
	for i := range n {
		l = append(l, fmt.Sprint(line, " ", i+1))
	}
	return l
}

// do returns the item 2 of act 7 with that text.
func do(text string) api.EnactedItem {
	it, at, errno := syntax.Parse(text)
	if errno != api.OK {
		panic(fmt.Sprint(text, at))
	}
	return api.EnactedItem{Act: 7, Item: 2, Day: 40, It: it}
}

// insertion returns the item that inserts the unit with that text at a place such as "into all last".
func insertion(place string, l ...string) api.EnactedItem {
	return do(place + " insert " + token.Quote(strings.Join(l, "\n")+"\n"))
}

// sample returns a book with all kinds of units.
func sample() api.Unit {
	return tree("book",
		"  part 1: one | a b a",
		"    section 1: head | a a a b",
		"      paragraph 1 | a",
		"        paragraph 1 | b",
		"          note 1 | a b",
		"      paragraph 2",
		"    section 2 | c",
		"  section 1",
		"    table 1: t",
		"      row 1",
		"        cell 1 | a",
		"        cell 2 | b",
		"      row 2",
		"  section 3: h h | a b a b a",
		"    paragraph 3 | x",
		"    note 1: n",
		"    paragraph 4 | x",
		"    paragraph 5",
		"  part 2 | a")
}

// books returns books whose roots are of several kinds.
func books() []api.Unit {
	deepest := []string{"book", "  part 1 | a", "    section 1 | b a"}
	for depth := 3; depth <= 8; depth++ {
		deepest = append(deepest, strings.Repeat("  ", depth)+"paragraph 1")
	}
	return []api.Unit{
		sample(), tree("book"), tree("book", "  section 1 | a", "  section 2 | b"), tree(deepest...),
		tree("part 1: p | a b a", "  section 1 | a", "  section 2", "    paragraph 1 | b"),
		tree("section 1: s | a b a", "  paragraph 1 | a", "    paragraph 1", "  paragraph 2", "  note 1"),
		tree("table 1 | a", "  row 1", "    cell 1 | a b", "    cell 2", "  row 2"),
		tree("note 1: n | a b"),
	}
}

// crowded returns a book with a section 1 that has n paragraphs, and a section 2 with a paragraph 99.
func crowded(n int) api.Unit {
	return tree(slices.Concat([]string{"book", "  section 1"}, times(n, "    paragraph"), []string{"  section 2", "    paragraph 99"})...)
}

// word returns a word with a mark.
func word(text string, act, item, at int) api.Word {
	return api.Word{Text: text, By: api.Mark{Act: act, Item: item, At: at}}
}

// nodes returns pointers to all units of a tree that shares nothing within itself, in document order.
func nodes(u *api.Unit) []*api.Unit {
	l := []*api.Unit{u}
	for i := range u.Kids {
		l = append(l, nodes(&u.Kids[i])...)
	}
	return l
}

// copyOf returns a copy that shares nothing with u.
func copyOf(u api.Unit) api.Unit {
	u.Head, u.Words, u.Kids = slices.Clone(u.Head), slices.Clone(u.Words), slices.Clone(u.Kids)
	for i := range u.Kids {
		u.Kids[i] = copyOf(u.Kids[i])
	}
	return u
}

// copyOfPatch returns a copy that shares nothing with the patch.
func copyOfPatch(p api.Patch) api.Patch {
	p.Unit, p.Words = copyOf(p.Unit), slices.Clone(p.Words)
	return p
}

// samePatch reports whether all fields of the patches are equal.
func samePatch(a, b api.Patch) bool {
	return a.Kind == b.Kind && a.At == b.At && a.Id == b.Id && a.Parent == b.Parent && unit.Equal(a.Unit, b.Unit) && a.Label == b.Label && slices.Equal(a.Words, b.Words)
}

// isZero reports whether the unit is the zero unit.
func isZero(u api.Unit) bool { return unit.Equal(u, api.Unit{}) }

// about returns the text of an item, which need not be valid.
func about(d api.EnactedItem) string {
	text, errno := syntax.Format(d.It)
	if errno != api.OK {
		text = fmt.Sprintf("%.500s", fmt.Sprintf("%+v", d.It))
	}
	return fmt.Sprintf("%d %d: %s", d.Act, d.Item, text)
}

// The model: it looks for the place of the unit that an item affects, and takes from there what the table of the chapter says.

func inverseOf(u api.Unit, d api.EnactedItem) api.Patch {
	u = copyOf(u)
	p := api.Patch{Id: enact.Affected(u, d)[0]}
	var x, above *api.Unit
	at := 0
	for _, y := range nodes(&u) {
		if y.Id == p.Id {
			x = y
		}
		for i := range y.Kids {
			if y.Kids[i].Id == p.Id {
				above, at = y, i
			}
		}
	}
	switch d.It.Kind {
	case api.Insert:
		p.Kind = api.PatchInserted
	case api.Repeal:
		p.Kind, p.Parent, p.At, p.Unit = api.PatchRemoved, above.Id, at, *x
	case api.ReplaceWords, api.InsertWords:
		p.Kind, p.Words = api.PatchWords, x.Words
	case api.Heading:
		p.Kind, p.Words = api.PatchHead, x.Head
	case api.Relabel:
		p.Kind, p.Label = api.PatchLabel, x.Label
	case api.Move:
		p.Kind, p.Parent, p.At = api.PatchMoved, above.Id, at
	}
	return p
}

// check compares Inverse and ApplyAll of an item with the model, and Revert with the book before the item. It returns the patch and the error.
func check(t *testing.T, u api.Unit, d api.EnactedItem) (api.Patch, api.Errno) {
	t.Helper()
	kept := copyOf(u)
	after, want := enact.Apply(u, d)
	p, errno := undo.Inverse(u, d)
	all, patches := undo.ApplyAll(u, d)
	if errno != want || !unit.Equal(all, after) || !unit.Equal(u, kept) {
		t.Fatal(about(d), errno, want, all)
	}
	if want != api.OK {
		if !samePatch(p, api.Patch{}) || len(patches) != 0 {
			t.Fatal(about(d), p, patches)
		}
		return p, errno
	}
	if model := inverseOf(u, d); !samePatch(p, model) || len(patches) != 1 || !samePatch(patches[0], model) {
		t.Fatal(about(d), p, patches, model)
	}
	checkRevert(t, after, p, api.OK)
	if before, _ := undo.Revert(after, p); !unit.Equal(before, u) {
		t.Fatal(about(d), before)
	}
	return p, errno
}

// layer8 makes the call of layer 8 that the chapter names for a patch.
func layer8(u api.Unit, p api.Patch) (api.Unit, api.Errno) {
	var out api.Unit
	errno := api.ErrArg
	switch p.Kind {
	case api.PatchInserted:
		out, _, errno = treeedit.Remove(u, p.Id)
	case api.PatchRemoved:
		out, errno = treeedit.Insert(u, p.Parent, p.At, p.Unit)
	case api.PatchMoved:
		out, errno = treeedit.Move(u, p.Id, p.Parent, p.At)
	case api.PatchLabel:
		out, errno = treeedit.Relabel(u, p.Id, p.Label)
	case api.PatchWords:
		out, errno = treeedit.SetWords(u, p.Id, p.Words...)
	case api.PatchHead:
		out, errno = treeedit.SetHeading(u, p.Id, p.Words...)
	}
	return out, errno
}

// checkRevert compares Revert, and RevertAll of one patch, with layer 8, and the error with the given one.
func checkRevert(t *testing.T, u api.Unit, p api.Patch, errno api.Errno) {
	t.Helper()
	kept, keptPatch := copyOf(u), copyOfPatch(p)
	want, e := layer8(u, p)
	if e != errno {
		t.Fatal(undo.Format(p), e, "want", errno)
	}
	for _, f := range []func() (api.Unit, api.Errno){
		func() (api.Unit, api.Errno) { return undo.Revert(u, p) },
		func() (api.Unit, api.Errno) { return undo.RevertAll(u, p) },
	} {
		got, e := f()
		if e != errno || !unit.Equal(got, want) || e != api.OK && !isZero(got) {
			t.Fatal(undo.Format(p), e, "want", errno, got)
		}
	}
	if !unit.Equal(u, kept) || !samePatch(p, keptPatch) {
		t.Fatal("arguments are modified")
	}
}

// P24.1: Inverse

func TestExample(t *testing.T) {
	d := insertion("into all last", "section 5")
	d.Act, d.Item = 1, 0
	p, errno := undo.Inverse(enact.Empty(), d)
	if errno != api.OK || undo.Format(p) != "inserted 1.0.1" {
		t.Error(undo.Format(p), errno)
	}
	u, _ := enact.Apply(enact.Empty(), d)
	if v, errno := undo.Revert(u, p); errno != api.OK || !unit.Equal(v, enact.Empty()) {
		t.Error(v, errno)
	}
}

// TestInverse names all fields of the inverses of items of every kind; those that are left out are zero.
func TestInverse(t *testing.T) {
	u := sample()
	part, _ := unit.Find(u, number(19))
	three, _ := unit.Find(u, number(14))
	rowOne, _ := unit.Find(u, number(10))
	new1 := api.Id{Act: 7, Item: 2, N: 1}
	for i, c := range []struct {
		d    api.EnactedItem
		want api.Patch
	}{
		{insertion("into all last", "section 9"), api.Patch{Kind: api.PatchInserted, Id: new1}},
		{insertion("ahead of section 3", "section 9: h | a", "  paragraph 1 | b", "  note 1"), api.Patch{Kind: api.PatchInserted, Id: new1}},
		{insertion("behind note 1", "row 9"), api.Patch{}},
		{insertion("into section 1 paragraph 1 first", "paragraph 9"), api.Patch{Kind: api.PatchInserted, Id: new1}},
		{do("repeal part 2"), api.Patch{Kind: api.PatchRemoved, Id: number(19), At: 3, Unit: part}},
		{do("repeal section 3"), api.Patch{Kind: api.PatchRemoved, Id: number(14), At: 2, Unit: three}},
		{do("repeal part 1"), api.Patch{Kind: api.PatchRemoved, Id: number(1), Unit: u.Kids[0]}},
		{do("repeal row 1"), api.Patch{Kind: api.PatchRemoved, Id: number(10), Parent: number(9), Unit: rowOne}},
		{do("repeal cell 2"), api.Patch{Kind: api.PatchRemoved, Id: number(12), Parent: number(10), At: 1, Unit: rowOne.Kids[1]}},
		{do(`in section 3 for "a b" put "c" at 2`), api.Patch{Kind: api.PatchWords, Id: number(14), Words: three.Words}},
		{do(`in section 2 for "c" put "" each`), api.Patch{Kind: api.PatchWords, Id: number(7), Words: u.Kids[0].Kids[1].Words}},
		{do(`in section 3 behind "b" put "c d" each`), api.Patch{Kind: api.PatchWords, Id: number(14), Words: three.Words}},
		{do(`in row 2 ahead of all put "c d"`), api.Patch{Kind: api.PatchWords, Id: number(13)}},
		{do(`head section 3 as "x"`), api.Patch{Kind: api.PatchHead, Id: number(14), Words: three.Head}},
		{do(`head section 3 as ""`), api.Patch{Kind: api.PatchHead, Id: number(14), Words: three.Head}},
		{do(`head section 2 as "x"`), api.Patch{Kind: api.PatchHead, Id: number(7)}},
		{do(`head section 2 as ""`), api.Patch{Kind: api.PatchHead, Id: number(7)}},
		{do("number section 3 as 4A"), api.Patch{Kind: api.PatchLabel, Id: number(14), Label: "3"}},
		{do("number cell 2 as 9"), api.Patch{Kind: api.PatchLabel, Id: number(12), Label: "2"}},
		{do("move section 3 into part 1 first"), api.Patch{Kind: api.PatchMoved, Id: number(14), At: 2}},
		{do("move part 1 into all last"), api.Patch{Kind: api.PatchMoved, Id: number(1)}},
		{do("move section 2 into all first"), api.Patch{Kind: api.PatchMoved, Id: number(7), Parent: number(1), At: 1}},
		{do("move cell 2 into row 2 last"), api.Patch{Kind: api.PatchMoved, Id: number(12), Parent: number(10), At: 1}},
		{do("move cell 2 behind cell 2"), api.Patch{Kind: api.PatchMoved, Id: number(12), Parent: number(10), At: 1}},
	} {
		if p, _ := check(t, u, c.d); !samePatch(p, c.want) {
			t.Error(i, about(c.d), p)
		}
	}
	d := insertion("into all last", "section 9")
	for _, by := range []struct{ act, item int }{{0, 0}, {-5, -6}, {math.MaxInt, math.MinInt}} {
		d.Act, d.Item = by.act, by.item
		if p, _ := check(t, u, d); !samePatch(p, api.Patch{Kind: api.PatchInserted, Id: api.Id{Act: by.act, Item: by.item, N: 1}}) {
			t.Error(by, p)
		}
	}
}

// failing returns items that fail on a book, with their errors.
func failing() map[api.Errno][]api.EnactedItem {
	known := insertion("into all last", "section 9", "  note 1")
	known.Act, known.Item = 3, 1
	bad := func(change func(it *api.Item)) api.EnactedItem {
		d := do("repeal section 3")
		change(&d.It)
		return d
	}
	return map[api.Errno][]api.EnactedItem{
		api.ErrArg: {do("commence act 3 from day 5"), do("expire act 3 from day 5"), do("revive act 3 item 1 from day 5"), do("happen union on day 5"), do("correct act 3 item 1 as repeal section 3"),
			bad(func(it *api.Item) { it.Kind = -1 }), bad(func(it *api.Item) { it.Kind = 12 }), bad(func(it *api.Item) { it.Nth = 1 }), bad(func(it *api.Item) { it.For = "Tax" }), bad(func(it *api.Item) { it.At[0].Label = "03" })},
		api.ErrNoTarget:       {do("repeal section 77"), do("move section 3 into section 77 last"), do(`head section 77 as "x"`), do("number section 77 as 5"), do(`in section 77 for "a" put "b" each`), insertion("behind section 77", "section 9")},
		api.ErrAmbiguous:      {do("repeal section 1"), do("move section 3 into section 1 last"), do(`in paragraph 1 ahead of all put "b"`)},
		api.ErrKind:           {do("repeal all"), do(`head all as "x"`), do("number book as 5"), do("move section 3 behind paragraph 3"), insertion("into all last", "paragraph 9"), do("move all into part 2 last")},
		api.ErrDuplicateLabel: {insertion("into all last", "section 3"), do("number section 3 as 1"), do("number section 3 as 3"), do("move book section 1 into part 1 last")},
		api.ErrExists:         {known},
		api.ErrMissing:        {do(`in section 3 for "z" put "b" each`), do(`in section 3 behind "a" put "b" at 4`)},
		api.ErrFull:           {do(`in section 3 for "a" put "` + strings.Join(slices.Repeat([]string{"x"}, 99), " ") + `" each`)},
	}
}

func TestInverseErrors(t *testing.T) {
	u := sample()
	for want, l := range failing() {
		for _, d := range l {
			if _, errno := check(t, u, d); errno != want {
				t.Error(about(d), errno, want)
			}
		}
	}
	full := crowded(64)
	for _, d := range []api.EnactedItem{insertion("into section 1 first", "paragraph 100"), do("move paragraph 99 into section 1 last")} {
		if _, errno := check(t, full, d); errno != api.ErrFull {
			t.Error(about(d), errno)
		}
	}
}

// items returns items of all kinds about a unit.
func items(u api.Unit, id api.Id) []api.EnactedItem {
	full, _ := address.Full(u, id)
	at := address.Format(full...)
	l := []api.EnactedItem{
		do("repeal " + at), do(`in ` + at + ` for "a" put "x y" each`), do(`in ` + at + ` for "b" put "" at 1`), do(`in ` + at + ` behind "a" put "x" each`), do(`in ` + at + ` ahead of all put "x y"`),
		do(`head ` + at + ` as "x"`), do(`head ` + at + ` as ""`), do("number " + at + " as 1"), do("number " + at + " as 77"),
	}
	for _, place := range []string{"into %s first", "into %s last", "behind %s", "ahead of %s"} {
		place = fmt.Sprintf(place, at)
		for _, x := range [][]string{{"section 9 | a", "  paragraph 1", "  note 1: h"}, {"paragraph 9"}, {"row 9", "  cell 1"}, {"part 1"}} {
			l = append(l, insertion(place, x...))
		}
		for _, other := range unit.IDs(u) {
			from, _ := address.Full(u, other)
			l = append(l, do("move "+address.Format(from...)+" "+place))
		}
	}
	return l
}

// TestEveryUnit applies items of all kinds about every unit of some books, and reverts their inverses.
func TestEveryUnit(t *testing.T) {
	effects := map[int]int{}
	for _, u := range books() {
		for _, id := range unit.IDs(u) {
			for _, d := range items(u, id) {
				if _, errno := check(t, u, d); errno == api.OK {
					effects[d.It.Kind]++
				}
			}
		}
	}
	for kind := api.Insert; kind <= api.Move; kind++ {
		if effects[kind] < 20 {
			t.Error(syntax.KindName(kind), effects[kind])
		}
	}
}

// TestPlaces removes every kid of a unit, the first, the last and those between, and moves it to each earlier and later place, and to another parent.
func TestPlaces(t *testing.T) {
	for _, n := range []int{1, 2, 3, 5, 63} {
		u := crowded(n)
		for i := range n {
			at := fmt.Sprint("section 1 paragraph ", i+1)
			p, _ := check(t, u, do("repeal "+at))
			if p.At != i || p.Parent != number(1) || p.Id != number(2+i) || !unit.Equal(p.Unit, u.Kids[0].Kids[i]) {
				t.Error(n, i, p)
			}
			for to := range n {
				if n == 63 && to%10 > 1 {
					continue
				}
				for _, place := range []string{"behind", "ahead of"} {
					p, errno := check(t, u, do(fmt.Sprint("move ", at, " ", place, " section 1 paragraph ", to+1)))
					if errno != api.OK || p.At != i || p.Parent != number(1) || p.Id != number(2+i) {
						t.Error(n, i, to, p)
					}
				}
			}
			for _, place := range []string{" into section 1 first", " into section 1 last", " into section 2 last", " ahead of section 2 paragraph 99"} {
				if p, errno := check(t, u, do("move "+at+place)); errno != api.OK || p.At != i || p.Parent != number(1) {
					t.Error(n, i, place, p)
				}
			}
		}
	}
}

// P24.1: Revert

// TestRevert gives Revert patches of every kind for every unit and parent, with indices within and beyond the kids, and compares it with layer 8.
func TestRevert(t *testing.T) {
	seen := map[[2]int]int{}
	for _, u := range books() {
		for _, id := range append(unit.IDs(u), unknown, number(100)) {
			for _, p := range patches(u, id) {
				_, errno := layer8(u, p)
				checkRevert(t, u, p, errno)
				seen[[2]int{p.Kind, int(errno)}]++
			}
		}
	}
	for kind, errs := range map[int][]api.Errno{
		api.PatchInserted: {api.OK, api.ErrMissing, api.ErrKind},
		api.PatchRemoved:  {api.OK, api.ErrArg, api.ErrMissing, api.ErrKind, api.ErrRange, api.ErrDuplicateLabel, api.ErrFull, api.ErrExists},
		api.PatchMoved:    {api.OK, api.ErrMissing, api.ErrKind, api.ErrRange, api.ErrDuplicateLabel},
		api.PatchLabel:    {api.OK, api.ErrArg, api.ErrMissing, api.ErrKind, api.ErrDuplicateLabel},
		api.PatchWords:    {api.OK, api.ErrArg, api.ErrMissing, api.ErrKind, api.ErrFull},
		api.PatchHead:     {api.OK, api.ErrArg, api.ErrMissing, api.ErrKind, api.ErrFull},
	} {
		for _, errno := range errs {
			if seen[[2]int{kind, int(errno)}] == 0 {
				t.Error(kind, errno)
			}
		}
	}
}

// patches returns patches of every kind about a unit, in which fields that do not belong to the kind are not zero.
func patches(u api.Unit, id api.Id) []api.Patch {
	other := wording.Stamp(bare("paragraph 7 | a"), 9, 9)
	l := []api.Patch{{Kind: api.PatchInserted, Id: id}, {Kind: api.PatchInserted, Id: id, Parent: unknown, At: -5, Unit: other, Label: "05", Words: []api.Word{{}}}}
	for _, label := range []string{"1", "2", "77", "05", ""} {
		l = append(l, api.Patch{Kind: api.PatchLabel, Id: id, Label: label, At: 3})
	}
	for _, words := range [][]api.Word{nil, {word("p", 5, 6, 7), word("q", -1, 0, 0)}, {{}}, {{Text: "a b"}}, slices.Repeat([]api.Word{{Text: "w"}}, 257)} {
		l = append(l, api.Patch{Kind: api.PatchWords, Id: id, Words: words, Label: "1"}, api.Patch{Kind: api.PatchHead, Id: id, Words: words, Unit: other})
	}
	inside := wording.Stamp(bare("paragraph 7 | a", "  paragraph 1"), 9, 9)
	inside.Kids[0].Id = number(1)
	for _, at := range []int{-1, 0, 1, 5} {
		for _, x := range []api.Unit{other, inside, wording.Stamp(bare("section 1: h"), 9, 9), wording.Stamp(bare("paragraph 1"), 9, 9), bare("paragraph 7"), bare("book"), {}} {
			l = append(l, api.Patch{Kind: api.PatchRemoved, Id: x.Id, Parent: id, At: at, Unit: x})
		}
		for _, parent := range append(unit.IDs(u), unknown) {
			l = append(l, api.Patch{Kind: api.PatchMoved, Id: id, Parent: parent, At: at})
		}
	}
	return l
}

// TestRevertErrors names the errors of layer 8.
func TestRevertErrors(t *testing.T) {
	u, full := sample(), crowded(64)
	bad := sample()
	bad.Kids[1].Label = "03"
	x := wording.Stamp(bare("paragraph 7 | a"), 9, 9)
	labelled := func(label string) api.Unit {
		y := x
		y.Label = label
		return y
	}
	deep := wording.Stamp(bare("paragraph 7", "  paragraph 1", "    paragraph 1", "      paragraph 1", "        paragraph 1", "          paragraph 1", "            paragraph 1"), 9, 9)
	twins := crowded(2)
	twins.Kids[1].Kids[0].Label = "1"
	below := tree("book", "  section 1", "    paragraph 1", "      paragraph 1", "        paragraph 1", "    paragraph 2", "      paragraph 1", "        paragraph 1", "          paragraph 1", "            paragraph 1", "              paragraph 1")
	many := slices.Repeat([]api.Word{{Text: "w"}}, 257)
	for i, c := range []struct {
		u    api.Unit
		p    api.Patch
		want api.Errno
	}{
		{bad, api.Patch{Kind: api.PatchInserted, Id: number(1)}, api.ErrArg}, {u, api.Patch{Kind: api.PatchInserted, Id: unknown}, api.ErrMissing}, {u, api.Patch{Kind: api.PatchInserted}, api.ErrKind},
		{bad, api.Patch{Kind: api.PatchRemoved, Parent: number(14), Unit: x}, api.ErrArg}, {u, api.Patch{Kind: api.PatchRemoved, Parent: number(14)}, api.ErrArg}, {u, api.Patch{Kind: api.PatchRemoved, Parent: number(14), Unit: unit.Strip(x)}, api.ErrArg}, {u, api.Patch{Kind: api.PatchRemoved, Parent: number(14), Unit: labelled("07")}, api.ErrArg},
		{u, api.Patch{Kind: api.PatchRemoved, Parent: unknown, Unit: x}, api.ErrMissing}, {u, api.Patch{Kind: api.PatchRemoved, Unit: x}, api.ErrKind}, {u, api.Patch{Kind: api.PatchRemoved, Parent: number(16), Unit: x}, api.ErrKind},
		{u, api.Patch{Kind: api.PatchRemoved, Parent: number(14), At: -1, Unit: x}, api.ErrRange}, {u, api.Patch{Kind: api.PatchRemoved, Parent: number(14), At: 5, Unit: x}, api.ErrRange}, {u, api.Patch{Kind: api.PatchRemoved, Parent: number(14), At: math.MaxInt, Unit: x}, api.ErrRange},
		{u, api.Patch{Kind: api.PatchRemoved, Parent: number(14), Unit: labelled("4")}, api.ErrDuplicateLabel}, {full, api.Patch{Kind: api.PatchRemoved, Parent: number(1), Unit: labelled("100")}, api.ErrFull}, {u, api.Patch{Kind: api.PatchRemoved, Parent: number(4), Unit: deep}, api.ErrFull},
		{u, api.Patch{Kind: api.PatchRemoved, Parent: number(14), Unit: wording.Stamp(x, 3, 1)}, api.OK}, {u, api.Patch{Kind: api.PatchRemoved, Parent: number(14), Unit: wording.Stamp(bare("paragraph 7", "  note 1"), 3, 1)}, api.ErrExists},
		{bad, api.Patch{Kind: api.PatchMoved, Id: number(14)}, api.ErrArg}, {u, api.Patch{Kind: api.PatchMoved, Id: unknown}, api.ErrMissing}, {u, api.Patch{Kind: api.PatchMoved, Id: number(14), Parent: unknown}, api.ErrMissing},
		{u, api.Patch{Kind: api.PatchMoved}, api.ErrKind}, {u, api.Patch{Kind: api.PatchMoved, Id: number(14), Parent: number(14)}, api.ErrKind}, {u, api.Patch{Kind: api.PatchMoved, Id: number(14), Parent: number(15)}, api.ErrKind}, {u, api.Patch{Kind: api.PatchMoved, Id: number(15), Parent: number(1)}, api.ErrKind},
		{u, api.Patch{Kind: api.PatchMoved, Id: number(14), At: -1}, api.ErrRange}, {u, api.Patch{Kind: api.PatchMoved, Id: number(14), At: 4}, api.ErrRange}, {u, api.Patch{Kind: api.PatchMoved, Id: number(14), At: 3}, api.OK},
		{twins, api.Patch{Kind: api.PatchMoved, Id: number(5), Parent: number(1)}, api.ErrDuplicateLabel}, {full, api.Patch{Kind: api.PatchMoved, Id: number(67), Parent: number(1)}, api.ErrFull}, {below, api.Patch{Kind: api.PatchMoved, Id: number(5), Parent: number(4)}, api.ErrFull},
		{bad, api.Patch{Kind: api.PatchLabel, Id: number(14), Label: "9"}, api.ErrArg}, {u, api.Patch{Kind: api.PatchLabel, Id: number(14)}, api.ErrArg}, {u, api.Patch{Kind: api.PatchLabel, Id: unknown, Label: "9"}, api.ErrMissing}, {u, api.Patch{Kind: api.PatchLabel, Label: "9"}, api.ErrKind}, {u, api.Patch{Kind: api.PatchLabel, Id: number(14), Label: "3"}, api.ErrDuplicateLabel}, {u, api.Patch{Kind: api.PatchLabel, Id: number(14), Label: "1"}, api.ErrDuplicateLabel},
		{bad, api.Patch{Kind: api.PatchWords, Id: number(14)}, api.ErrArg}, {u, api.Patch{Kind: api.PatchWords, Id: number(14), Words: []api.Word{{}}}, api.ErrArg}, {u, api.Patch{Kind: api.PatchWords, Id: unknown}, api.ErrMissing}, {u, api.Patch{Kind: api.PatchWords}, api.ErrKind}, {u, api.Patch{Kind: api.PatchWords, Id: number(14), Words: many}, api.ErrFull},
		{bad, api.Patch{Kind: api.PatchHead, Id: number(14)}, api.ErrArg}, {u, api.Patch{Kind: api.PatchHead, Id: number(14), Words: []api.Word{{}}}, api.ErrArg}, {u, api.Patch{Kind: api.PatchHead, Id: unknown}, api.ErrMissing}, {u, api.Patch{Kind: api.PatchHead}, api.ErrKind}, {u, api.Patch{Kind: api.PatchHead, Id: number(14), Words: many}, api.ErrFull},
	} {
		t.Run(fmt.Sprint(i), func(t *testing.T) { checkRevert(t, c.u, c.p, c.want) })
	}
}

// TestRevertKinds gives Revert kinds below and above the six.
func TestRevertKinds(t *testing.T) {
	for _, u := range books() {
		for _, kind := range []int{math.MinInt, -2, -1, 6, 7, math.MaxInt} {
			for _, id := range append(unit.IDs(u), unknown) {
				checkRevert(t, u, api.Patch{Kind: kind, Id: id, Parent: u.Id, Label: "9"}, api.ErrArg)
			}
		}
	}
}

// P24.1 and P24.3: ApplyAll and RevertAll

// checkAll compares ApplyAll with layer 23 and with the inverses one by one, and reverts the last k of these for every k. It returns the patches.
func checkAll(t *testing.T, u api.Unit, l []api.EnactedItem) []api.Patch {
	t.Helper()
	var want []api.Patch
	versions := []api.Unit{u} // the books after each item that has an effect
	for _, d := range l {
		now := versions[len(versions)-1]
		if p, errno := check(t, now, d); errno == api.OK {
			want = append(want, p)
			next, _ := enact.Apply(now, d)
			versions = append(versions, next)
		}
	}
	after, patches := undo.ApplyAll(u, l...)
	other, _ := enact.ApplyAll(u, l...)
	if !unit.Equal(after, other) || !unit.Equal(after, versions[len(versions)-1]) || !slices.EqualFunc(patches, want, samePatch) {
		t.Fatal(after, patches, want)
	}
	for k := range versions {
		got, errno := undo.RevertAll(after, patches[k:]...)
		if errno != api.OK || !unit.Equal(got, versions[k]) {
			t.Fatal(k, len(patches), errno, got)
		}
	}
	return patches
}

// story returns items of which many depend on earlier ones, with some that fail, and some of other kinds.
func story() []api.EnactedItem {
	l := []api.EnactedItem{
		insertion("into all first", "section 1 | a b a", "  paragraph 1 | c"),
		do("commence act 5 from day 7"),
		do(`in section 1 for "b" put "c d" each`),
		do(`in section 1 for "b" put "c d" each`), // there is no b any more
		do("number section 1 as 2"),
		do("repeal section 1"), // it is section 2 now
		do(`head section 2 as "h"`),
		insertion("behind section 2", "section 1 | see section 2"),
		do("move section 2 behind section 1"),
		do("move section 2 paragraph 1 into section 1 first"),
		do(`head section 2 as ""`),
		do("repeal section 2"),
		do(`in section 1 ahead of all put "x"`),
	}
	for i := range l {
		l[i].Act, l[i].Item = 5+i/4, i%4
	}
	return l
}

func TestApplyAll(t *testing.T) {
	patches := checkAll(t, enact.Empty(), story())
	var got []string
	for _, p := range patches {
		got = append(got, undo.Format(p))
	}
	want := []string{"inserted 5.0.1", "words 5.0.1 were a b a", "label 5.0.1 was 1", "heading 5.0.1 was", "inserted 6.3.1", "moved 5.0.1 from 0.0.0 at 0", "moved 5.0.2 from 5.0.1 at 0", "heading 5.0.1 was h", "removed 5.0.1 from 0.0.0 at 1", "words 6.3.1 were see section 2"}
	if !slices.Equal(got, want) {
		t.Error(got)
	}
	for _, u := range books() {
		if l := checkAll(t, u, nil); len(l) != 0 {
			t.Error(l)
		}
		checkAll(t, u, story())
	}
	var all []api.EnactedItem
	for _, errno := range []api.Errno{api.ErrArg, api.ErrNoTarget, api.ErrAmbiguous, api.ErrKind, api.ErrDuplicateLabel, api.ErrExists, api.ErrMissing, api.ErrFull} {
		all = append(all, failing()[errno]...)
	}
	if l := checkAll(t, sample(), all); len(l) != 0 { // nothing but failures
		t.Error(l)
	}
}

func TestRevertAll(t *testing.T) {
	u := sample()
	if got, errno := undo.RevertAll(u); errno != api.OK || !unit.Equal(got, u) {
		t.Error(got, errno)
	}
	after, patches := undo.ApplyAll(enact.Empty(), story()...)
	if got, errno := undo.RevertAll(after, patches...); errno != api.OK || !unit.Equal(got, enact.Empty()) {
		t.Error(got, errno)
	}
	slices.Reverse(patches)
	if got, errno := undo.RevertAll(after, patches...); errno == api.OK || !isZero(got) {
		t.Error(got, errno)
	}
	// The first error is that of the last patch that fails.
	label, missing, kind, none := api.Patch{Kind: api.PatchLabel, Id: number(14), Label: "3"}, api.Patch{Kind: api.PatchInserted, Id: unknown}, api.Patch{Kind: api.PatchInserted}, api.Patch{Kind: 6}
	good := api.Patch{Kind: api.PatchWords, Id: number(14)}
	for i, c := range []struct {
		l    []api.Patch
		want api.Errno
	}{
		{[]api.Patch{label, missing, kind, none}, api.ErrArg}, {[]api.Patch{none, label, missing, kind}, api.ErrKind}, {[]api.Patch{kind, none, label, missing}, api.ErrMissing}, {[]api.Patch{missing, kind, none, label}, api.ErrDuplicateLabel},
		{[]api.Patch{label, good}, api.ErrDuplicateLabel}, {[]api.Patch{good, label}, api.ErrDuplicateLabel}, {[]api.Patch{none, label, good, good}, api.ErrDuplicateLabel}, {[]api.Patch{good, good}, api.OK},
	} {
		got, errno := undo.RevertAll(u, c.l...)
		if errno != c.want || c.want != api.OK && !isZero(got) {
			t.Error(i, errno, got)
		}
	}
	if got, _ := undo.RevertAll(u, good, good); len(got.Kids[2].Words) != 0 {
		t.Error(got.Kids[2])
	}
}

// TestWrongOrder reverts two patches in both orders, of which one fails or gives another book.
func TestWrongOrder(t *testing.T) {
	for i, c := range []struct {
		first, second api.EnactedItem
		want          api.Errno
	}{
		{insertion("into all last", "section 9 | a"), do(`in section 9 for "a" put "b" each`), api.ErrMissing},
		{insertion("into section 3 first", "paragraph 9"), do("move paragraph 9 into part 1 section 1 paragraph 2 first"), api.ErrMissing},
		{do("repeal section 3"), insertion("into all last", "section 3"), api.ErrDuplicateLabel},
		{do("number section 3 as 4"), insertion("into all last", "section 3"), api.ErrDuplicateLabel},
		{do("repeal paragraph 3"), do("repeal section 3"), api.ErrMissing},
		{do(`in section 3 for "a" put "b" each`), do(`in section 3 for "b" put "c" each`), api.OK},
	} {
		u := sample()
		c.second.Act = 8
		after, patches := undo.ApplyAll(u, c.first, c.second)
		if len(patches) != 2 {
			t.Fatal(i, patches)
		}
		if got, errno := undo.RevertAll(after, patches...); errno != api.OK || !unit.Equal(got, u) {
			t.Error(i, errno, got)
		}
		if got, errno := undo.RevertAll(after, patches[1], patches[0]); errno != c.want || errno != api.OK && !isZero(got) || unit.Equal(got, u) {
			t.Error(i, errno, got)
		}
	}
}

// P24.1: Format

func TestFormat(t *testing.T) {
	id, other := api.Id{Act: 1, Item: 0, N: 12}, api.Id{Act: -4, Item: -31, N: -1}
	words := []api.Word{word("a", 1, 2, 3), word("b|", 4, 5, 6), word("a", 0, 0, 0)}
	x := bare("section 5")
	for want, p := range map[string]api.Patch{
		"inserted 1.0.12":                     {Kind: api.PatchInserted, Id: id, Parent: other, At: 7, Label: "5", Words: words, Unit: x},
		"inserted 0.0.0":                      {},
		"inserted -4.-31.-1":                  {Id: other},
		"removed 1.0.12 from -4.-31.-1 at 7":  {Kind: api.PatchRemoved, Id: id, Parent: other, At: 7, Label: "5", Words: words, Unit: x},
		"removed 0.0.0 from 0.0.0 at 0":       {Kind: api.PatchRemoved},
		"removed 1.0.12 from 0.0.0 at -9":     {Kind: api.PatchRemoved, Id: id, At: -9},
		"moved -4.-31.-1 from 1.0.12 at 63":   {Kind: api.PatchMoved, Id: other, Parent: id, At: 63, Label: "5", Words: words, Unit: x},
		"moved 0.0.0 from 0.0.0 at 0":         {Kind: api.PatchMoved},
		"label 1.0.12 was 5A":                 {Kind: api.PatchLabel, Id: id, Label: "5A", Parent: other, At: 7, Words: words, Unit: x},
		"label 1.0.12 was ":                   {Kind: api.PatchLabel, Id: id},
		"label 0.0.0 was a b":                 {Kind: api.PatchLabel, Label: "a b"},
		"words 1.0.12 were a b| a":            {Kind: api.PatchWords, Id: id, Words: words, Label: "5", Parent: other, At: 7, Unit: x},
		"words 1.0.12 were":                   {Kind: api.PatchWords, Id: id},
		"words 0.0.0 were  a b \xff":          {Kind: api.PatchWords, Words: []api.Word{{}, {Text: "a b"}, {Text: "\xff"}}},
		"heading 1.0.12 was a b| a":           {Kind: api.PatchHead, Id: id, Words: words, Label: "5", Parent: other, At: 7, Unit: x},
		"heading 1.0.12 was a":                {Kind: api.PatchHead, Id: id, Words: words[:1]},
		"heading -4.-31.-1 was":               {Kind: api.PatchHead, Id: other, Words: []api.Word{}},
		"removed 0.0.0 from 0.0.0 at 1048576": {Kind: api.PatchRemoved, At: 1048576},
		"inserted 9223372036854775807.0.100":  {Id: api.Id{Act: math.MaxInt64, N: 100}},
		"inserted -9223372036854775808.1.0":   {Id: api.Id{Act: math.MinInt64, Item: 1, N: 0}},
	} {
		kept := copyOfPatch(p)
		if got := undo.Format(p); got != want {
			t.Errorf("%q, want %q", got, want)
		}
		if !samePatch(p, kept) {
			t.Error(want, "is modified")
		}
		for _, kind := range []int{math.MinInt, -2, -1, 6, 7, math.MaxInt} {
			p.Kind = kind
			if got := undo.Format(p); got != "" {
				t.Errorf("%d: %q", kind, got)
			}
		}
	}
}

// P24.2 and P24.3

// randomItem returns an amendment about the tree, which often has an effect.
func randomItem(r *rand.Rand, u api.Unit) api.EnactedItem {
	ids := unit.IDs(u)
	someAddress := func() string {
		p, _ := address.Full(u, ids[r.Intn(len(ids))])
		if r.Intn(3) == 0 {
			p = p[len(p)-1:]
		}
		return address.Format(p...)
	}
	at, n := someAddress(), 1+r.Intn(4)
	place := fmt.Sprintf([]string{"into %s first", "into %s last", "behind %s", "ahead of %s"}[r.Intn(4)], someAddress())
	words := strings.Join([]string{"a", "b", "c", "a"}[r.Intn(4):], " ")
	switch r.Intn(9) {
	case 0:
		return insertion(place, fmt.Sprint("section ", n, ": h | ", words), "  paragraph 1 | a b", "  note 1")
	case 1:
		return insertion(place, fmt.Sprint("paragraph ", n, " | a b a"), "  table 1", "    row 1 | a")
	case 2:
		return insertion(place, fmt.Sprint("part ", n, ": ", words), "  section 1 | a a")
	case 3:
		return do("repeal " + at)
	case 4:
		return do(fmt.Sprintf(`in %s for "a" put "%s" each`, at, words))
	case 5:
		return do(fmt.Sprintf(`in %s behind "a" put "%s" at 1`, at, words))
	case 6:
		return do(fmt.Sprintf(`head %s as "%s"`, at, words))
	case 7:
		return do(fmt.Sprint("number ", at, " as ", n))
	}
	return do("move " + at + " " + place)
}

// TestRandom builds books by random items and reverts all of them, and the last ones only.
func TestRandom(t *testing.T) {
	r := rand.New(rand.NewSource(24))
	effects := 0
	for range 150 {
		u := enact.Empty()
		if r.Intn(2) == 0 {
			u = sample()
		}
		var l []api.EnactedItem
		now := u
		for n := range 40 {
			d := randomItem(r, now)
			d.Act, d.Item = 10+n, r.Intn(3)
			l = append(l, d)
			now, _ = enact.Apply(now, d)
		}
		effects += len(checkAll(t, u, l))
	}
	if effects < 1000 {
		t.Error(effects)
	}
}
