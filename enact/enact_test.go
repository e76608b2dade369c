package enact_test

import (
	"fmt"
	"math"
	"slices"
	"strings"
	"testing"

	"pandect/address"
	"pandect/api"
	"pandect/enact"
	"pandect/plaintext"
	"pandect/syntax"
	"pandect/token"
	"pandect/unit"
)

// Samples.

// The act and the item of the amendments, unless a test says otherwise.
const act, item = 7, 2

// number returns the ID of the unit on line n of the text of a tree. That of a book on line 0 is zero.
func number(n int) api.Id { return api.Id{Act: 3, Item: 1, N: n} }

// unknown is an ID that no tree of these tests has.
var unknown = api.Id{Act: -77, Item: 3, N: -1}

// tree returns the tree with that text, with IDs and different marks.
func tree(lines ...string) api.Unit { return identified(bare(lines...)) }

// identified returns the tree, which shares nothing within itself, with IDs and different marks.
func identified(u api.Unit) api.Unit {
	next := 0
	for i, x := range places(&u) {
		if x.u.Kind != api.Book {
			x.u.Id = number(i)
		}
		for _, l := range [][]api.Word{x.u.Head, x.u.Words} {
			for k := range l {
				l[k].By = api.Mark{Act: 3, Item: 1, At: next}
				next++
			}
		}
	}
	return u
}

// bare returns the tree with that text, without IDs and marks.
func bare(lines ...string) api.Unit {
	u, _, errno := plaintext.Parse(strings.Join(lines, "\n") + "\n")
	if errno != api.OK {
		panic(fmt.Sprint(errno, lines))
	}
	return u
}

// numbered returns so many lines for units of a kind, with labels from 1 on.
func numbered(n int, kind string) []string {
	var l []string
	for i := range n {
		l = append(l, fmt.Sprint(kind, " ", i+1))
	}
	return l
}

// nested returns the lines of n paragraphs 1, each in the one before it, from a depth on.
func nested(n, depth int) []string {
	var l []string
	for i := range n {
		l = append(l, strings.Repeat("  ", depth+i)+"paragraph 1")
	}
	return l
}

// lines returns the lines of a tree.
func lines(u api.Unit) []string { return plaintext.Lines(u) }

// parsed returns the instruction with that text.
func parsed(text string) api.Item {
	it, at, errno := syntax.Parse(text)
	if errno != api.OK {
		panic(fmt.Sprint(text, at))
	}
	return it
}

// do returns the enacted item with that text.
func do(text string) api.EnactedItem { return by(act, item, parsed(text)) }

// by returns an instruction as an item of an act.
func by(act, item int, it api.Item) api.EnactedItem {
	return api.EnactedItem{Act: act, Item: item, Day: 40, It: it}
}

// insertion returns the item that inserts the unit with that text at a place such as "into all last".
func insertion(place string, l ...string) api.EnactedItem {
	return do(place + " insert " + token.Quote(strings.Join(l, "\n")+"\n"))
}

// sample returns a book with all kinds of units.
func sample() api.Unit {
	return tree("book",
		"  part 1: one | a b a",
		"    section 1: head | a a a b",
		"      paragraph 1 | a",
		"        paragraph 1 | b",
		"          note 1 | a b",
		"      paragraph 2",
		"    section 2 | c",
		"  section 1",
		"    table 1: t",
		"      row 1",
		"        cell 1 | a",
		"        cell 2 | b",
		"      row 2",
		"  section 3: h h | a b a b a",
		"    paragraph 3 | x",
		"    note 1: n",
		"    paragraph 4 | x",
		"    paragraph 5",
		"  part 2 | a")
}

// roots returns books whose roots are of all other kinds.
func roots() []api.Unit {
	return []api.Unit{
		tree("part 1: p | a b a", "  section 1 | a", "  section 2", "    paragraph 1 | b"),
		tree("section 1: s | a b a", "  paragraph 1 | a", "    paragraph 1", "  paragraph 2", "  note 1"),
		tree("paragraph 1 | a b a", "  paragraph 2", "    paragraph 1 | b a", "  paragraph 3"),
		tree("table 1 | a", "  row 1", "    cell 1 | a b", "    cell 2", "  row 2"),
		tree("row 1", "  cell 1", "  cell 2 | a a a"),
		tree("cell 1 | b a"),
		tree("note 9999ZZZ: n | a b"),
	}
}

// books returns books with few units.
func books() []api.Unit {
	deepest := append([]string{"book", "  part 1 | a", "    section 1 | b a"}, nested(6, 3)...)
	return append(roots(), sample(), tree("book"), tree("book", "  section 1 | a", "  section 2 | b"), tree(deepest...))
}

// large returns a book with n units: sections with 64 paragraphs each, of which the last one has fewer.
func large(n int) api.Unit {
	var u api.Unit
	for left := n - 1; left > 0; {
		section := api.Unit{Kind: api.Section, Label: fmt.Sprint(len(u.Kids) + 1)}
		left--
		for len(section.Kids) < 64 && left > 0 {
			section.Kids = append(section.Kids, api.Unit{Kind: api.Para, Label: fmt.Sprint(len(section.Kids) + 1)})
			left--
		}
		u.Kids = append(u.Kids, section)
	}
	return identified(u)
}

// withKids returns a book with a section 1 that has n paragraphs, and a section 2 with a paragraph 99.
func withKids(n int) api.Unit {
	l := []string{"book", "  section 1"}
	for _, s := range numbered(n, "    paragraph") {
		l = append(l, s)
	}
	return tree(append(l, "  section 2", "    paragraph 99")...)
}

// times returns the text that is the word n times.
func times(n int, word string) string { return strings.Join(slices.Repeat([]string{word}, n), " ") }

// addresses returns addresses that match the root, one unit, several units and none.
func addresses(u api.Unit) [][]api.Step {
	out := [][]api.Step{nil, {{}}, {{Kind: api.Section, Label: "77"}}, {{}, {Kind: api.Note, Label: "1"}}, {{Kind: api.Section, Label: "1"}, {Kind: api.Para, Label: "77"}}}
	add := func(p []api.Step) {
		if !slices.ContainsFunc(out, func(q []api.Step) bool { return slices.Equal(p, q) }) {
			out = append(out, p)
		}
	}
	for _, id := range unit.IDs(u) {
		full, _ := address.Full(u, id)
		add(full)
		add(full[len(full)-1:])
		add(full[max(0, len(full)-2):])
	}
	return out
}

// All kinds.

// instructions returns instructions of all kinds about an address.
func instructions(u api.Unit, at []api.Step) []api.Item {
	l := []api.Item{{Kind: api.Repeal, At: at}, {Kind: api.Heading, At: at}, {Kind: api.Heading, At: at, New: []string{"x", "y"}}}
	for _, label := range []string{"1", "2", "4", "77A"} {
		l = append(l, api.Item{Kind: api.Relabel, At: at, Label: label})
	}
	for _, old := range [][]string{nil, {"a"}, {"b", "a"}, {"z"}} {
		for _, fresh := range [][]string{nil, {"x", "y"}} {
			for nth := range 4 {
				l = append(l, api.Item{Kind: api.ReplaceWords, At: at, Old: old, New: fresh, Nth: nth}, api.Item{Kind: api.InsertWords, At: at, Old: old, New: fresh, Nth: nth})
			}
		}
	}
	for where := api.First; where <= api.Before; where++ {
		for _, x := range []string{"part 1", "section 2", "section 77: h | a", "paragraph 1 | w", "paragraph 8", "table 1", "row 2", "cell 1 | c", "note 1 | a a"} {
			l = append(l, api.Item{Kind: api.Insert, At: at, Where: where, Unit: bare(x)})
		}
		l = append(l, api.Item{Kind: api.Insert, At: at, Where: where, Unit: bare("paragraph 9: x | y", "  paragraph 1: z", "    note 1", "  note 1 | w w")})
		for _, to := range addresses(u) {
			l = append(l, api.Item{Kind: api.Move, At: at, To: to, Where: where})
		}
	}
	return l
}

// pair is a kind of amendments and two failures that apply to one of them.
type pair struct {
	kind int
	a, b api.Errno
}

// pairsOf returns all pairs among the failures that apply to an amendment.
func pairsOf(kind int, l []api.Errno) []pair {
	var out []pair
	for i, a := range l {
		for _, b := range l[i+1:] {
			out = append(out, pair{kind, a, b})
		}
	}
	return out
}

// TestEverything compares instructions of all kinds with the model, about all units of small books, whose root may be of any kind. It expects no pair of failures beside those of TestPairs.
func TestEverything(t *testing.T) {
	effects := map[int]int{}
	for _, u := range books() {
		for _, at := range addresses(u) {
			for k, it := range instructions(u, at) {
				d := by(act, item, it)
				if k%17 == 0 {
					d.Act, d.Item = 3, 1 // whose IDs are in the book
				}
				l := check(t, u, d)
				if len(l) == 0 {
					effects[it.Kind]++
				}
				for _, p := range pairsOf(it.Kind, l) {
					if !slices.Contains(possiblePairs(), p) {
						t.Fatal(about(d), p)
					}
				}
			}
		}
	}
	for kind := api.Insert; kind <= api.Move; kind++ {
		if effects[kind] < 50 {
			t.Error(syntax.KindName(kind), effects[kind])
		}
	}
}

// P23.1: which items are amendments

func TestEmpty(t *testing.T) {
	u := enact.Empty()
	if u.Kind != api.Book || !unit.Equal(u, api.Unit{}) || u.Head != nil || u.Words != nil || u.Kids != nil {
		t.Error(u)
	}
}

func TestExample(t *testing.T) {
	u := enact.Empty()
	for i, d := range []api.EnactedItem{insertion("into all last", "section 5 | a b a"), do(`in section 5 for "a" put "c" each`)} {
		d.Act = i + 1
		u = after(t, u, d)
	}
	want := []string{"book", "  section 5 | c b c"}
	if got := lines(u); !slices.Equal(got, want) {
		t.Error(got)
	}
	marks := []api.Mark{{Act: 2, Item: item, At: 0}, {Act: 1, Item: item, At: 1}, {Act: 2, Item: item, At: 1}}
	for i, w := range u.Kids[0].Words {
		if w.By != marks[i] {
			t.Error(i, w)
		}
	}
}

// valid returns an instruction of every kind that is valid, and that takes effect on the sample if it is an amendment.
func valid() []api.Item {
	l := []api.Item{insertion("into section 3 first", "paragraph 1").It}
	for _, text := range []string{
		"repeal section 3", `in section 3 for "a" put "" each`, `in section 3 behind "a" put "x" each`, `head section 3 as "x"`, "number section 3 as 4", "move section 3 into part 2 last",
		"commence act 3 from day 5", "expire act 3 item 1 from day 5", "revive act 3 from day 0", "happen union on day 5", "correct act 3 item 1 as repeal section 3",
	} {
		l = append(l, parsed(text))
	}
	return l
}

// TestKinds gives Apply and Affected instructions of every kind, of kinds below and above them, and valid and invalid ones.
func TestKinds(t *testing.T) {
	u := sample()
	for kind, it := range valid() {
		want := api.OK
		if kind > api.Move {
			want = api.ErrArg
		}
		if it.Kind != kind {
			t.Fatal(kind, it)
		}
		expect(t, u, by(act, item, it), want)
		for _, other := range []int{math.MinInt, -2, -1, 12, 13, math.MaxInt} {
			it.Kind = other
			expect(t, u, by(act, item, it), api.ErrArg)
		}
	}
	for i, it := range invalid() {
		if syntax.Valid(it) {
			t.Fatal(i)
		}
		expect(t, u, by(act, item, it), api.ErrArg)
	}
}

// invalid returns amendments with a field that is not as it must be, which would take effect otherwise.
func invalid() []api.Item {
	var out []api.Item
	for _, it := range valid()[:api.Move+1] {
		for _, spoil := range []func(it *api.Item){
			func(it *api.Item) { it.For = "Tax" },
			func(it *api.Item) { it.Start = api.Start{Kind: api.OnDay, Day: -1} },
			func(it *api.Item) { it.Start = api.Start{Day: 5} },
			func(it *api.Item) { it.Day = 5 },
			func(it *api.Item) { it.Act = 1 },
			func(it *api.Item) { it.Event = "union" },
			func(it *api.Item) { it.By = []api.Item{parsed("repeal section 3")} },
			func(it *api.Item) { it.At = append(slices.Clone(it.At), api.Step{Kind: api.Para, Label: "05"}) },
			func(it *api.Item) { it.At = slices.Repeat([]api.Step{{Kind: api.Para, Label: "1"}}, 10) },
		} {
			bad := copyOfItem(it)
			spoil(&bad)
			out = append(out, bad)
		}
	}
	l := valid()
	spoil := func(kind int, change func(it *api.Item)) {
		it := copyOfItem(l[kind])
		change(&it)
		out = append(out, it)
	}
	for _, kind := range []int{api.Insert, api.Move} {
		for _, where := range []int{math.MinInt, -1, 4, math.MaxInt} {
			spoil(kind, func(it *api.Item) { it.Where = where })
		}
	}
	spoil(api.Insert, func(it *api.Item) { it.Unit = bare("book") })
	spoil(api.Insert, func(it *api.Item) { it.Unit.Id = number(90) })
	spoil(api.Insert, func(it *api.Item) { it.Unit.Words = []api.Word{{Text: "a b"}} })
	spoil(api.Insert, func(it *api.Item) { it.Unit.Words = []api.Word{{Text: "a", By: api.Mark{Act: 1}}} })
	spoil(api.Insert, func(it *api.Item) { it.Unit = large(100).Kids[0] })
	for _, kind := range []int{api.ReplaceWords, api.InsertWords} {
		for _, nth := range []int{math.MinInt, -1, 257, math.MaxInt} {
			spoil(kind, func(it *api.Item) { it.Nth = nth })
		}
		spoil(kind, func(it *api.Item) { it.New = slices.Repeat([]string{"x"}, 257) })
		spoil(kind, func(it *api.Item) { it.New = []string{""} })
	}
	spoil(api.ReplaceWords, func(it *api.Item) { it.Old = nil })
	spoil(api.InsertWords, func(it *api.Item) { it.New = nil })
	spoil(api.InsertWords, func(it *api.Item) { it.Old, it.Nth = nil, 1 })
	spoil(api.Heading, func(it *api.Item) { it.New = slices.Repeat([]string{"x"}, 257) })
	spoil(api.Relabel, func(it *api.Item) { it.Label = "05" })
	spoil(api.Relabel, func(it *api.Item) { it.Label = "" })
	spoil(api.Move, func(it *api.Item) { it.To = []api.Step{{Kind: api.Part}} })
	return out
}

// TestTargets expects what an At that matches nothing, one unit, several units or the root does, for every kind.
func TestTargets(t *testing.T) {
	u := sample()
	for _, it := range valid()[:api.Move+1] {
		for _, c := range []struct {
			at   string
			want api.Errno
		}{{"section 77", api.ErrNoTarget}, {"book section 2", api.ErrNoTarget}, {"book part 1 section 3", api.ErrNoTarget}, {"section 1", api.ErrAmbiguous}, {"paragraph 1", api.ErrAmbiguous}, {"note 1", api.ErrAmbiguous}} {
			it.At, _ = address.Parse(c.at)
			expect(t, u, by(act, item, it), c.want)
		}
		for _, at := range [][]api.Step{nil, {}, {{}}} {
			it.At = at
			expect(t, u, by(act, item, it), api.ErrKind) // for Insert since the book cannot contain paragraphs
		}
	}
}

// TestRoots expects that a root of any kind is treated as the book.
func TestRoots(t *testing.T) {
	for _, u := range append(roots(), sample()) {
		for _, text := range []string{"repeal %", `in % for "a" put "b" each`, `in % behind "a" put "b" at 1`, `in % ahead of all put "b"`, `head % as "b"`, "number % as 77", "move % into % first", "move % ahead of %", "move % behind all"} {
			expect(t, u, do(strings.ReplaceAll(text, "%", "all")), api.ErrKind)
			expect(t, u, do(strings.ReplaceAll(text, "%", "book")), api.ErrKind)
		}
		for _, kind := range []string{"part", "section", "paragraph", "table", "row", "cell", "note"} {
			x := kind + " 77 | a"
			expect(t, u, insertion("ahead of all", x), api.ErrKind)
			expect(t, u, insertion("behind book", x), api.ErrKind)
			want := api.ErrKind
			if unit.CanContain(u.Kind, bare(x).Kind) {
				want = api.OK
			}
			expect(t, u, insertion("into all first", x), want)
			expect(t, u, insertion("into book last", x), want)
		}
	}
	u := roots()[1] // a section 1, which is found by its own address too
	for _, text := range []string{"repeal section 1", `in section 1 for "a" put "b" each`, `head section 1 as "x"`, "number section 1 as 2"} {
		expect(t, u, do(text), api.ErrKind)
	}
	expect(t, u, insertion("into section 1 first", "paragraph 3"), api.OK)
}

// P23.1: Insert

// TestInsertPositions looks at each position, of the only kid, of the first, a middle and the last one, and of the book.
func TestInsertPositions(t *testing.T) {
	u := tree("book", "  section 1", "    note 1", "  section 2", "  section 3")
	x := "section 9"
	for place, want := range map[string][]string{
		"into all first":                    {"section 9", "section 1", "note 1", "section 2", "section 3"},
		"into all last":                     {"section 1", "note 1", "section 2", "section 3", "section 9"},
		"into book first":                   {"section 9", "section 1", "note 1", "section 2", "section 3"},
		"ahead of section 1":                {"section 9", "section 1", "note 1", "section 2", "section 3"},
		"behind section 1":                  {"section 1", "note 1", "section 9", "section 2", "section 3"},
		"ahead of section 2":                {"section 1", "note 1", "section 9", "section 2", "section 3"},
		"behind section 2":                  {"section 1", "note 1", "section 2", "section 9", "section 3"},
		"behind section 3":                  {"section 1", "note 1", "section 2", "section 3", "section 9"},
		"into section 1 first paragraph 9":  {"section 1", "paragraph 9", "note 1", "section 2", "section 3"},
		"into section 1 last paragraph 9":   {"section 1", "note 1", "paragraph 9", "section 2", "section 3"},
		"ahead of note 1 paragraph 9":       {"section 1", "paragraph 9", "note 1", "section 2", "section 3"},
		"behind note 1 paragraph 9":         {"section 1", "note 1", "paragraph 9", "section 2", "section 3"},
		"into section 3 last paragraph 9":   {"section 1", "note 1", "section 2", "section 3", "paragraph 9"},
		"into section 2 first paragraph 9A": {"section 1", "note 1", "section 2", "paragraph 9A", "section 3"},
	} {
		y := x
		if at := strings.LastIndex(place, " paragraph"); at >= 0 {
			place, y = place[:at], place[at+1:]
		}
		var got []string
		for _, line := range lines(after(t, u, insertion(place, y)))[1:] {
			got = append(got, strings.TrimSpace(line))
		}
		if !slices.Equal(got, want) {
			t.Error(place, got)
		}
	}
}

// TestInsertKinds inserts units of every kind into, and beside, units of every kind.
func TestInsertKinds(t *testing.T) {
	u := sample()
	kinds := []string{"part", "section", "paragraph", "table", "row", "cell", "note"}
	targets := []string{"book", "part 2", "section 3", "paragraph 3", "table 1", "row 2", "cell 1", "section 3 note 1"}
	for parent, at := range targets {
		for i, kind := range kinds {
			want := api.OK
			if !unit.CanContain(parent, i+1) {
				want = api.ErrKind
			}
			expect(t, u, insertion("into "+at+" first", kind+" 77"), want)
			expect(t, u, insertion("into "+at+" last", kind+" 77"), want)
			id, _ := address.FindOne(u, parsed("repeal "+at).At...)
			above, _, ok := unit.Parent(u, id)
			x, _ := unit.Find(u, above)
			want = api.OK
			if !ok || !unit.CanContain(x.Kind, i+1) {
				want = api.ErrKind
			}
			expect(t, u, insertion("ahead of "+at, kind+" 77"), want)
			expect(t, u, insertion("behind "+at, kind+" 77"), want)
		}
	}
}

func TestInsertLabels(t *testing.T) {
	u := tree("book", "  section 1", "    paragraph 1", "    note 2", "    table 3", "  section 2", "    paragraph 4")
	for _, place := range []string{"into section 1 first", "into section 1 last", "ahead of paragraph 1", "behind note 2"} {
		for x, want := range map[string]api.Errno{
			"paragraph 1": api.ErrDuplicateLabel, "note 2": api.ErrDuplicateLabel, "table 3": api.ErrDuplicateLabel,
			"paragraph 2": api.OK, "paragraph 3": api.OK, "note 1": api.OK, "note 3": api.OK, "table 1": api.OK, "table 2": api.OK, // a sibling of another kind
			"paragraph 4": api.OK, "paragraph 1A": api.OK, "paragraph 11": api.OK,
		} {
			expect(t, u, insertion(place, x), want)
		}
	}
	expect(t, u, insertion("behind section 1", "section 2"), api.ErrDuplicateLabel)
	expect(t, u, insertion("behind section 1", "part 2"), api.OK)
	expect(t, u, insertion("into paragraph 1 first", "paragraph 1"), api.OK) // its parent has the label, its siblings don't
}

func TestInsertFullKids(t *testing.T) {
	for _, n := range []int{0, 62, 63, 64} {
		want := api.OK
		if n == 64 {
			want = api.ErrFull
		}
		u := withKids(n)
		for _, place := range []string{"into section 1 first", "into section 1 last"} {
			expect(t, u, insertion(place, "paragraph 100"), want)
			expect(t, u, insertion(place, "note 1"), want) // kids of all kinds count
		}
		if n > 0 {
			expect(t, u, insertion("ahead of paragraph 1", "paragraph 100"), want)
			expect(t, u, insertion(fmt.Sprint("behind paragraph ", n), "paragraph 100"), want)
			expect(t, u, insertion("into section 1 paragraph 1 first", "paragraph 100"), api.OK)
		}
		expect(t, u, insertion("into section 2 first", "paragraph 100"), api.OK)
		sections := []string{"book"}
		for _, s := range numbered(n, "  section") {
			sections = append(sections, s)
		}
		expect(t, tree(sections...), insertion("into all last", "section 100"), want)
	}
}

// depthError returns the error of putting paragraphs that are so deep at a position of a section or paragraph at the depth above.
func depthError(above, below, where int) api.Errno {
	depth := above + 1
	if isBeside(where) {
		depth = above
	}
	switch {
	case depth == 1: // below the book
		return api.ErrKind
	case depth+below > 8:
		return api.ErrFull
	}
	return api.OK
}

// TestInsertFullDepth inserts subtrees of all depths at all depths of a book that is as deep as may be.
func TestInsertFullDepth(t *testing.T) {
	u := tree(append([]string{"book", "  section 1"}, nested(7, 2)...)...)
	section := parsed("repeal section 1").At
	for above := 1; above <= 8; above++ {
		at := append(slices.Clone(section), slices.Repeat([]api.Step{{Kind: api.Para, Label: "1"}}, above-1)...)
		for below := range 9 {
			x := bare(nested(below+1, 0)...)
			x.Label = "2"
			for where := api.First; where <= api.Before; where++ {
				expect(t, u, by(act, item, api.Item{Kind: api.Insert, At: at, Where: where, Unit: x}), depthError(above, below, where))
			}
		}
	}
	x := bare("paragraph 2", "  note 1", "  paragraph 1", "    note 1", "  note 2") // its depth is that of its deepest kid
	at := append(slices.Clone(section), slices.Repeat([]api.Step{{Kind: api.Para, Label: "1"}}, 4)...)
	expect(t, u, by(act, item, api.Item{Kind: api.Insert, At: at, Unit: x}), api.OK)
	at = append(at, api.Step{Kind: api.Para, Label: "1"})
	expect(t, u, by(act, item, api.Item{Kind: api.Insert, At: at, Unit: x}), api.ErrFull)
}

func TestInsertFullUnits(t *testing.T) {
	for _, c := range []struct{ units, more int }{{1022, 1}, {1022, 2}, {1022, 3}, {1023, 1}, {1023, 2}, {1024, 1}, {1024, 3}, {965, 59}, {965, 60}, {2, 65}} {
		l := []string{"section 99"}
		for _, s := range numbered(c.more-1, "  note") {
			l = append(l, s)
		}
		want := api.OK
		if c.units+c.more > 1024 {
			want = api.ErrFull
		}
		u := large(c.units)
		if unit.Count(u) != c.units {
			t.Fatal(unit.Count(u))
		}
		expect(t, u, insertion("into all first", l...), want)
		expect(t, u, insertion("behind section 1", l...), want)
	}
}

// TestInsertExists inserts for acts and items whose IDs are in the book, all of them or only the last one.
func TestInsertExists(t *testing.T) {
	u := tree("book", "  section 1", "    paragraph 1", "  section 2")
	u.Kids[0].Kids[0].Id = api.Id{Act: act, Item: item, N: 3}
	u.Kids[1].Id = api.Id{Act: -1, Item: 0, N: 1}
	for _, c := range []struct {
		act, item, units int
		want             api.Errno
	}{
		{act, item, 1, api.OK}, {act, item, 2, api.OK}, {act, item, 3, api.ErrExists}, {act, item, 4, api.ErrExists},
		{act, item + 1, 4, api.OK}, {act + 1, item, 4, api.OK}, {item, act, 4, api.OK},
		{3, 1, 1, api.ErrExists}, {3, 1, 4, api.ErrExists}, {-1, 0, 1, api.ErrExists}, {0, 0, 4, api.OK}, {math.MinInt, math.MaxInt, 4, api.OK},
	} {
		l := []string{"section 9"}
		for _, s := range numbered(c.units-1, "  note") {
			l = append(l, s)
		}
		d := insertion("into all last", l...)
		d.Act, d.Item = c.act, c.item
		expect(t, u, d, c.want)
	}
	// The IDs are free again when the units are gone.
	d := insertion("into all last", "section 9", "  note 1")
	once := after(t, enact.Empty(), d)
	expect(t, once, d, api.ErrDuplicateLabel)
	renamed := insertion("into all last", "section 8")
	expect(t, once, renamed, api.ErrExists)
	expect(t, after(t, once, do("repeal section 9")), renamed, api.OK)
}

// TestInsertStamps looks at the IDs and marks of several units with headings and words.
func TestInsertStamps(t *testing.T) {
	u := after(t, sample(), insertion("behind section 3", "section 5: one two | three", "  paragraph 1 | four five", "    note 1: six", "  paragraph 2: seven | eight"))
	x := u.Kids[3]
	if x.Label != "5" || len(x.Kids) != 2 {
		t.Fatal(x)
	}
	nth, next := 1, 0
	texts := []string{"one", "two", "three", "four", "five", "six", "seven", "eight"}
	for _, y := range places(&x) {
		if y.u.Id != (api.Id{Act: act, Item: item, N: nth}) {
			t.Error(y.u.Id)
		}
		nth++
		for _, w := range slices.Concat(y.u.Head, y.u.Words) {
			if w != (api.Word{Text: texts[next], By: api.Mark{Act: act, Item: item, At: next}}) {
				t.Error(next, w)
			}
			next++
		}
	}
	if nth != 5 || next != len(texts) {
		t.Error(nth, next)
	}
}

// P23.1: Repeal

func TestRepeal(t *testing.T) {
	u := sample()
	for _, c := range []struct {
		at   string
		gone []int
	}{
		{"part 2", []int{19}}, {"row 2", []int{13}}, {"cell 1", []int{11}}, {"section 3 note 1", []int{16}}, {"paragraph 5", []int{18}},
		{"section 3", []int{14, 15, 16, 17, 18}}, {"table 1", []int{9, 10, 11, 12, 13}}, {"part 1", []int{1, 2, 3, 4, 5, 6, 7}}, {"part 1 section 1 paragraph 1", []int{3, 4, 5}},
	} {
		d := do("repeal " + c.at)
		rest := after(t, u, d)
		var gone []api.Id
		for _, n := range c.gone {
			gone = append(gone, number(n))
		}
		left := slices.DeleteFunc(unit.IDs(u), func(id api.Id) bool { return slices.Contains(gone, id) })
		if !slices.Equal(unit.IDs(rest), left) || !slices.Equal(enact.Affected(u, d), gone) {
			t.Error(c.at, unit.IDs(rest), enact.Affected(u, d))
		}
	}
	expect(t, u, do("repeal all"), api.ErrKind)
	expect(t, u, do("repeal book"), api.ErrKind)
	expect(t, after(t, u, do("repeal section 3")), do("repeal section 3"), api.ErrNoTarget)
}

// P23.1: ReplaceWords and InsertWords

// wordsOf returns the words of section 1 with the marks of the new ones, such as x0 y1.
func wordsOf(u api.Unit) string {
	var out []string
	for _, w := range u.Kids[0].Words {
		if w.By.Act == act && w.By.Item == item {
			w.Text += fmt.Sprint(w.By.At)
		}
		out = append(out, w.Text)
	}
	return strings.Join(out, " ")
}

func TestWords(t *testing.T) {
	u := tree("book", "  section 1: head a | a b a a")
	for text, want := range map[string]string{
		`for "a" put "x" each`:          "x0 b x1 x2",
		`for "a" put "x y" each`:        "x0 y1 b x2 y3 x4 y5",
		`for "a" put "" each`:           "b",
		`for "a" put "a" each`:          "a0 b a1 a2",
		`for "a" put "x y" at 1`:        "x0 y1 b a a",
		`for "a" put "x y" at 3`:        "a b a x0 y1",
		`for "a b" put "x" at 1`:        "x0 a a",
		`for "a a" put "x" each`:        "a b x0",
		`for "a b a a" put "" each`:     "",
		`behind "a" put "x" each`:       "a x0 b a x1 a x2",
		`behind "a" put "x y" each`:     "a x0 y1 b a x2 y3 a x4 y5",
		`behind "a" put "x" at 1`:       "a x0 b a a",
		`behind "a" put "x" at 3`:       "a b a a x0",
		`behind "b a" put "x" at 1`:     "a b a x0 a",
		`ahead of all put "x y"`:        "x0 y1 a b a a",
		`ahead of all put "a"`:          "a0 a b a a",
		`behind "a b a a" put "x" each`: "a b a a x0",
	} {
		if got := wordsOf(after(t, u, do("in section 1 "+text))); got != want {
			t.Errorf("%s: %s", text, got)
		}
	}
	for _, text := range []string{`for "a" put "x" at 4`, `for "a" put "x" at 256`, `for "b" put "x" at 2`, `for "a a" put "x" at 2`, `for "z" put "x" each`, `for "z" put "x" at 1`, `for "head" put "x" each`, `for "a b a a a" put "x" each`,
		`behind "a" put "x" at 4`, `behind "b" put "x" at 2`, `behind "z" put "x" each`, `behind "z" put "x" at 1`, `behind "head" put "x" each`} {
		expect(t, u, do("in section 1 "+text), api.ErrMissing)
	}
	none := tree("book", "  section 1")
	expect(t, none, do(`in section 1 for "a" put "x" each`), api.ErrMissing)
	expect(t, none, do(`in section 1 behind "a" put "x" each`), api.ErrMissing)
	if got := wordsOf(after(t, none, do(`in section 1 ahead of all put "x y"`))); got != "x0 y1" {
		t.Error(got)
	}
}

func TestWordsFull(t *testing.T) {
	for _, c := range []struct {
		words int
		text  string
		want  api.Errno
	}{
		{255, `for "a" put "x x" at 9`, api.OK}, {256, `for "a" put "x x" at 9`, api.ErrFull}, {256, `for "a" put "x" each`, api.OK}, {256, `for "a" put "" each`, api.OK},
		{128, `for "a" put "x x" each`, api.OK}, {129, `for "a" put "x x" each`, api.ErrFull}, {2, `for "a" put "` + times(128, "x") + `" each`, api.OK}, {2, `for "a" put "` + times(129, "x") + `" each`, api.ErrFull},
		{255, `behind "a" put "x" at 255`, api.OK}, {256, `behind "a" put "x" at 256`, api.ErrFull}, {128, `behind "a" put "x" each`, api.OK}, {129, `behind "a" put "x" each`, api.ErrFull},
		{255, `ahead of all put "x"`, api.OK}, {256, `ahead of all put "x"`, api.ErrFull}, {0, `ahead of all put "` + times(256, "x") + `"`, api.OK}, {1, `ahead of all put "` + times(256, "x") + `"`, api.ErrFull},
		{256, `for "a" put "x" at 256`, api.OK}, {255, `for "a" put "x" at 256`, api.ErrMissing}, {256, `behind "z" put "x" each`, api.ErrMissing},
	} {
		line := "  section 1"
		if c.words > 0 {
			line += " | " + times(c.words, "a")
		}
		expect(t, tree("book", line), do("in section 1 "+c.text), c.want)
	}
}

// P23.1: Heading

func TestHeading(t *testing.T) {
	for _, c := range []struct{ before, new, after string }{
		{"section 1", "", "section 1"}, {"section 1", "x y", "section 1: x y"}, {"section 1: a b | w", "", "section 1 | w"}, {"section 1: a b | w", "x", "section 1: x | w"}, {"section 1: a b | w", "a b", "section 1: a b | w"},
		{"section 1: a", times(256, "x"), "section 1: " + times(256, "x")},
	} {
		u := after(t, tree("book", "  "+c.before), do(`head section 1 as "`+c.new+`"`))
		if got := lines(u)[1]; got != "  "+c.after {
			t.Error(got)
		}
		for i, w := range u.Kids[0].Head {
			if w.By != (api.Mark{Act: act, Item: item, At: i}) {
				t.Error(c.new, i, w)
			}
		}
	}
}

// P23.1: Relabel

func TestRelabel(t *testing.T) {
	u := sample()
	for _, c := range []struct {
		at, label string
		want      api.Errno
	}{
		{"section 3", "3", api.ErrDuplicateLabel}, {"part 1", "1", api.ErrDuplicateLabel}, {"cell 2", "2", api.ErrDuplicateLabel}, // its own label
		{"section 3", "1", api.ErrDuplicateLabel}, {"part 1", "2", api.ErrDuplicateLabel}, {"cell 2", "1", api.ErrDuplicateLabel}, {"paragraph 3", "5", api.ErrDuplicateLabel},
		{"section 3", "2", api.OK}, {"part 1", "3", api.OK}, {"section 3 note 1", "3", api.OK}, {"paragraph 4", "1", api.OK}, // the label of a sibling of another kind, or of a unit elsewhere
		{"section 3", "3A", api.OK}, {"section 3", "33", api.OK}, {"row 1", "9999ZZZ", api.OK},
	} {
		d := do("number " + c.at + " as " + c.label)
		expect(t, u, d, c.want)
		if c.want == api.OK {
			id := enact.Affected(u, d)[0]
			if x, _ := unit.Find(after(t, u, d), id); x.Label != c.label {
				t.Error(c.at, x.Label)
			}
		}
	}
}

// P23.1: Move

// kidsOf returns the labels of the kids of the unit.
func kidsOf(u api.Unit, id api.Id) string {
	x, _ := unit.Find(u, id)
	var l []string
	for _, kid := range x.Kids {
		l = append(l, kid.Label)
	}
	return strings.Join(l, " ")
}

func TestMoveWithinParent(t *testing.T) {
	for _, n := range []int{1, 2, 5, 64} {
		u := withKids(n)
		for from := 1; from <= n; from++ {
			if n == 64 && from%9 != 1 {
				continue
			}
			at := fmt.Sprint("move section 1 paragraph ", from)
			var rest []string
			for i := 1; i <= n; i++ {
				if i != from {
					rest = append(rest, fmt.Sprint(i))
				}
			}
			looks := func(text string, at int) {
				t.Helper()
				want := strings.Join(slices.Insert(slices.Clone(rest), at, fmt.Sprint(from)), " ")
				if got := kidsOf(after(t, u, do(text)), number(1)); got != want {
					t.Errorf("%s: %s", text, got)
				}
			}
			looks(at+" into section 1 first", 0)
			looks(at+" into section 1 last", n-1)
			for to := 1; to <= n; to++ {
				if n == 64 && to%7 != 1 {
					continue
				}
				place := to - 1 // behind all of the units ahead of it, but for the moved one
				if to > from {
					place--
				}
				if to == from {
					looks(fmt.Sprint(at, " ahead of section 1 paragraph ", to), from-1) // the position does not change
					looks(fmt.Sprint(at, " behind section 1 paragraph ", to), from-1)
					continue
				}
				looks(fmt.Sprint(at, " ahead of section 1 paragraph ", to), place)
				looks(fmt.Sprint(at, " behind section 1 paragraph ", to), place+1)
			}
		}
	}
}

func TestMoveToAnotherParent(t *testing.T) {
	u := sample()
	for _, c := range []struct {
		text   string
		parent int
		labels string
	}{
		{"move section 2 into book first", 0, "2 1 1 3 2"}, {"move section 2 into book last", 0, "1 1 3 2 2"}, {"move section 2 behind section 3", 0, "1 1 3 2 2"}, {"move section 2 ahead of section 3", 0, "1 1 2 3 2"},
		{"move section 2 behind part 1", 0, "1 2 1 3 2"}, {"move section 3 into part 1 first", 1, "3 1 2"}, {"move section 3 into part 1 last", 1, "1 2 3"}, {"move section 3 behind part 1 section 1", 1, "1 3 2"}, {"move section 3 ahead of part 1 section 1", 1, "3 1 2"},
		{"move section 3 into part 2 first", 19, "3"}, {"move section 3 into part 2 last", 19, "3"}, {"move table 1 into paragraph 5 first", 18, "1"}, {"move cell 2 into row 2 last", 13, "2"}, {"move part 1 into all last", 0, "1 3 2 1"},
		{"move section 3 paragraph 3 ahead of paragraph 2", 2, "1 3 2"}, {"move paragraph 5 into section 1 paragraph 1 paragraph 1 first", 4, "5 1"},
	} {
		d := do(c.text)
		moved := enact.Affected(u, d)[0]
		id := number(c.parent)
		if c.parent == 0 {
			id = u.Id
		}
		v := after(t, u, d)
		parent, _, _ := unit.Parent(v, moved)
		before, _ := unit.Find(u, moved)
		now, _ := unit.Find(v, moved)
		if got := kidsOf(v, id); got != c.labels || parent != id || !unit.Equal(before, now) {
			t.Error(c.text, got, parent, now)
		}
	}
}

// TestMoveErrors names the failures of a Move.
func TestMoveErrors(t *testing.T) {
	u := sample()
	places := []string{"into %s first", "into %s last", "behind %s", "ahead of %s"}
	for _, c := range []struct {
		at, to string
		want   [4]api.Errno
	}{
		{"section 3", "section 77", [4]api.Errno{api.ErrNoTarget, api.ErrNoTarget, api.ErrNoTarget, api.ErrNoTarget}},
		{"section 3", "section 1", [4]api.Errno{api.ErrAmbiguous, api.ErrAmbiguous, api.ErrAmbiguous, api.ErrAmbiguous}},
		{"all", "part 2", [4]api.Errno{api.ErrKind, api.ErrKind, api.ErrKind, api.ErrKind}},
		{"book", "paragraph 3", [4]api.Errno{api.ErrKind, api.ErrKind, api.ErrKind, api.ErrKind}},
		{"all", "all", [4]api.Errno{api.ErrKind, api.ErrKind, api.ErrKind, api.ErrKind}},
		{"section 3", "all", [4]api.Errno{api.OK, api.OK, api.ErrKind, api.ErrKind}},
		{"section 2", "book", [4]api.Errno{api.OK, api.OK, api.ErrKind, api.ErrKind}},
		{"section 3", "section 3", [4]api.Errno{api.ErrKind, api.ErrKind, api.OK, api.OK}},
		{"part 1", "part 1", [4]api.Errno{api.ErrKind, api.ErrKind, api.OK, api.OK}},
		{"section 3", "paragraph 3", [4]api.Errno{api.ErrKind, api.ErrKind, api.ErrKind, api.ErrKind}},
		{"part 1", "section 2", [4]api.Errno{api.ErrKind, api.ErrKind, api.ErrKind, api.ErrKind}},
		{"section 3", "part 2", [4]api.Errno{api.OK, api.OK, api.OK, api.OK}},
		{"paragraph 3", "part 2", [4]api.Errno{api.ErrKind, api.ErrKind, api.ErrKind, api.ErrKind}},
		{"paragraph 3", "table 1", [4]api.Errno{api.ErrKind, api.ErrKind, api.OK, api.OK}},
		{"paragraph 3", "cell 1", [4]api.Errno{api.ErrKind, api.ErrKind, api.ErrKind, api.ErrKind}},
		{"book section 1", "part 1", [4]api.Errno{api.ErrDuplicateLabel, api.ErrDuplicateLabel, api.OK, api.OK}},
		{"book section 1", "part 1 section 1", [4]api.Errno{api.ErrKind, api.ErrKind, api.ErrDuplicateLabel, api.ErrDuplicateLabel}},
		{"section 3 note 1", "section 1 paragraph 1 paragraph 1", [4]api.Errno{api.ErrDuplicateLabel, api.ErrDuplicateLabel, api.OK, api.OK}},
	} {
		for where, place := range places {
			expect(t, u, do("move "+c.at+" "+fmt.Sprintf(place, c.to)), c.want[where])
		}
	}
}

// TestMoveBelowItself moves a unit to units below it at every depth.
func TestMoveBelowItself(t *testing.T) {
	u := tree(append([]string{"book", "  part 1", "    section 1"}, nested(6, 3)...)...)
	path, _ := address.Full(u, number(8))
	for i := range path {
		for k := i + 1; k < len(path); k++ {
			for where := api.First; where <= api.Before; where++ {
				expect(t, u, by(act, item, api.Item{Kind: api.Move, At: path[:i+1], To: path[:k+1], Where: where}), api.ErrKind)
			}
		}
	}
}

func TestMoveFullKids(t *testing.T) {
	for n, want := range map[int]api.Errno{62: api.OK, 63: api.OK, 64: api.ErrFull} {
		u := withKids(n)
		for _, place := range []string{"into section 1 first", "into section 1 last", "behind section 1 paragraph 7", fmt.Sprint("ahead of section 1 paragraph ", n)} {
			expect(t, u, do("move paragraph 99 "+place), want)
			expect(t, u, do("move section 1 paragraph 7 "+place), api.OK) // within its parent there is room for it
		}
	}
}

// TestMoveFullDepth moves subtrees of all depths to all depths.
func TestMoveFullDepth(t *testing.T) {
	for below := range 7 {
		l := append([]string{"book", "  section 1"}, nested(7, 2)...)
		l = append(l, "  section 2")
		for i, s := range nested(below+1, 2) {
			if i == 0 {
				s = "    paragraph 2"
			}
			l = append(l, s)
		}
		u := tree(l...)
		at := parsed("repeal section 2 paragraph 2").At
		for above := 1; above <= 8; above++ {
			to := append(parsed("repeal section 1").At, slices.Repeat([]api.Step{{Kind: api.Para, Label: "1"}}, above-1)...)
			for where := api.First; where <= api.Before; where++ {
				expect(t, u, by(act, item, api.Item{Kind: api.Move, At: at, To: to, Where: where}), depthError(above, below, where))
			}
		}
	}
}
