package footprint_test

import (
	"fmt"
	"math"
	"slices"
	"strings"
	"testing"

	"pandect/address"
	"pandect/api"
	"pandect/footprint"
	"pandect/plaintext"
	"pandect/syntax"
	"pandect/token"
	"pandect/unit"
)

// Samples.

// The act and the item of the amendments, unless a test says otherwise.
const act, item = 7, 2

// number returns the ID of the unit on line n of the text of a tree. That of a book on line 0 is zero.
func number(n int) api.Id { return api.Id{Act: 3, Item: 1, N: n} }

// bare returns the tree with that text.
func bare(lines ...string) api.Unit {
	u, _, errno := plaintext.Parse(strings.Join(lines, "\n") + "\n")
	if errno != api.OK {
		panic(fmt.Sprint(errno, lines))
	}
	return u
}

// tree returns the tree with that text, with IDs.
func tree(lines ...string) api.Unit {
	u := bare(lines...)
	for i, x := range places(&u) {
		if x.u.Kind != api.Book {
			x.u.Id = number(i)
		}
	}
	return u
}

// parsed returns the instruction with that text.
func parsed(text string) api.Item {
	it, at, errno := syntax.Parse(text)
	if errno != api.OK {
		panic(fmt.Sprint(text, at))
	}
	return it
}

// by returns an instruction as an item of an act.
func by(act, item int, it api.Item) api.EnactedItem {
	return api.EnactedItem{Act: act, Item: item, Day: 40, It: it}
}

// do returns the enacted item with that text.
func do(text string) api.EnactedItem { return by(act, item, parsed(text)) }

// doAs returns the enacted item with that text, as an item of an act.
func doAs(act, item int, text string) api.EnactedItem { return by(act, item, parsed(text)) }

// insertion returns the item that inserts the unit with that text at a place such as "into all last".
func insertion(place string, l ...string) api.EnactedItem {
	return do(place + " insert " + token.Quote(strings.Join(l, "\n")+"\n"))
}

// sample returns a book with all kinds of units, each on the line of its number.
func sample() api.Unit {
	return tree("book",
		"  part 1: one | a b a",
		"    section 1: head | a a a b",
		"      paragraph 1 | a",
		"        paragraph 1 | b",
		"          note 1 | a b",
		"      paragraph 2",
		"    section 2 | c",
		"  section 1",
		"    table 1: t",
		"      row 1",
		"        cell 1 | a",
		"        cell 2 | b",
		"      row 2",
		"  section 3: h h | a b a b a",
		"    paragraph 3 | x",
		"    note 1: n",
		"    paragraph 4 | x",
		"    paragraph 5",
		"  part 2 | a")
}

// roots returns books whose roots are of all other kinds.
func roots() []api.Unit {
	return []api.Unit{
		tree("part 1: p | a b a", "  section 1 | a", "  section 2", "    paragraph 1 | b"),
		tree("section 1: s | a b a", "  paragraph 1 | a", "    paragraph 1", "  paragraph 2", "  note 1"),
		tree("paragraph 1 | a b a", "  paragraph 2", "    paragraph 1 | b a", "  paragraph 3"),
		tree("table 1 | a", "  row 1", "    cell 1 | a b", "    cell 2", "  row 2"),
		tree("row 1", "  cell 1", "  cell 2 | a a a"),
		tree("cell 1 | b a"),
		tree("note 9999ZZZ: n | a b"),
	}
}

// books returns books with few units.
func books() []api.Unit {
	deepest := []string{"book", "  part 1 | a", "    section 1 | b a"}
	for depth := 3; depth <= 8; depth++ {
		deepest = append(deepest, strings.Repeat("  ", depth)+"paragraph 1")
	}
	return append(roots(), sample(), tree("book"), tree("book", "  section 1 | a", "  section 2 | b"), tree(deepest...))
}

// copyOf returns a copy that shares nothing with u.
func copyOf(u api.Unit) api.Unit {
	u.Head, u.Words, u.Kids = slices.Clone(u.Head), slices.Clone(u.Words), slices.Clone(u.Kids)
	for i := range u.Kids {
		u.Kids[i] = copyOf(u.Kids[i])
	}
	return u
}

// copyOfItem returns a copy that shares nothing with the instruction.
func copyOfItem(it api.Item) api.Item {
	it.At, it.To, it.Unit, it.Old, it.New, it.By = slices.Clone(it.At), slices.Clone(it.To), copyOf(it.Unit), slices.Clone(it.Old), slices.Clone(it.New), slices.Clone(it.By)
	for i := range it.By {
		it.By[i] = copyOfItem(it.By[i])
	}
	return it
}

// about returns the text of an item, which need not be valid.
func about(d api.EnactedItem) string {
	text, errno := syntax.Format(d.It)
	if errno != api.OK {
		text = fmt.Sprintf("%.500s", fmt.Sprintf("%+v", d.It))
	}
	return fmt.Sprintf("%d %d: %s", d.Act, d.Item, text)
}

// texts returns the texts of the keys.
func texts(l []api.Key) []string {
	var out []string
	for _, k := range l {
		out = append(out, footprint.FormatKey(k))
	}
	return out
}

// keysOf returns the keys with those texts, separated by commas.
func keysOf(text string) []api.Key {
	var out []api.Key
	for _, s := range strings.FieldsFunc(text, func(r rune) bool { return r == ',' }) {
		kind, rest, _ := strings.Cut(strings.TrimSpace(s), " ")
		k := api.Key{Kind: slices.Index([]string{"words", "head", "kids", "name"}, kind)}
		if kind == "name" {
			p, errno := address.Parse(rest)
			if errno != api.OK || len(p) != 1 {
				panic(s)
			}
			k.Name = p[0]
		} else if n, err := fmt.Sscanf(rest, "%d.%d.%d", &k.Id.Act, &k.Id.Item, &k.Id.N); n != 3 {
			panic(fmt.Sprint(s, err))
		}
		out = append(out, k)
	}
	return out
}

// expect compares an item with the model, and its two sets with the given ones.
func expect(t *testing.T, u api.Unit, d api.EnactedItem, reads, writes string) {
	t.Helper()
	check(t, u, d)
	if got := footprint.Reads(u, d); !slices.Equal(got, keysOf(reads)) {
		t.Errorf("%s reads %s", about(d), strings.Join(texts(got), ", "))
	}
	if got := footprint.Writes(u, d); !slices.Equal(got, keysOf(writes)) {
		t.Errorf("%s writes %s", about(d), strings.Join(texts(got), ", "))
	}
}

// addresses returns addresses that match the root, one unit, several units and none.
func addresses(u api.Unit) [][]api.Step {
	out := [][]api.Step{nil, {{}}, {{Kind: api.Section, Label: "77"}}, {{}, {Kind: api.Note, Label: "1"}}, {{Kind: api.Section, Label: "1"}, {Kind: api.Para, Label: "77"}}}
	add := func(p []api.Step) {
		if !slices.ContainsFunc(out, func(q []api.Step) bool { return slices.Equal(p, q) }) {
			out = append(out, p)
		}
	}
	for _, id := range unit.IDs(u) {
		full, _ := address.Full(u, id)
		add(full)
		add(full[len(full)-1:])
		add(full[max(0, len(full)-2):])
	}
	return out
}

// P25.1: all kinds

// instructions returns instructions of all kinds about an address.
func instructions(u api.Unit, at []api.Step) []api.Item {
	l := []api.Item{{Kind: api.Repeal, At: at}, {Kind: api.Heading, At: at}, {Kind: api.Heading, At: at, New: []string{"x", "y"}}}
	for _, label := range []string{"1", "2", "4", "77A"} {
		l = append(l, api.Item{Kind: api.Relabel, At: at, Label: label})
	}
	for _, old := range [][]string{nil, {"a"}, {"b", "a"}, {"z"}} {
		for _, fresh := range [][]string{nil, {"x", "y"}} {
			for nth := range 3 {
				l = append(l, api.Item{Kind: api.ReplaceWords, At: at, Old: old, New: fresh, Nth: nth}, api.Item{Kind: api.InsertWords, At: at, Old: old, New: fresh, Nth: nth})
			}
		}
	}
	for where := api.First; where <= api.Before; where++ {
		for _, x := range []string{"part 1", "section 2", "section 77: h | a", "paragraph 1 | w", "paragraph 8", "table 1", "row 2", "cell 1 | c", "note 1 | a a"} {
			l = append(l, api.Item{Kind: api.Insert, At: at, Where: where, Unit: bare(x)})
		}
		l = append(l, api.Item{Kind: api.Insert, At: at, Where: where, Unit: bare("paragraph 9: x | y", "  paragraph 9: z", "    note 1", "  note 1 | w w")})
		for _, to := range addresses(u) {
			l = append(l, api.Item{Kind: api.Move, At: at, To: to, Where: where})
		}
	}
	return l
}

// TestEverything compares instructions of all kinds with the model, about all units of small books, whose root may be of any kind.
func TestEverything(t *testing.T) {
	effects, failures := map[int]int{}, map[int]int{}
	for _, u := range books() {
		for _, at := range addresses(u) {
			for k, it := range instructions(u, at) {
				d := by(act, item, it)
				if k%17 == 0 {
					d.Act, d.Item = 3, 1 // whose IDs are in the book
				}
				if check(t, u, d) {
					effects[it.Kind]++
				} else {
					failures[it.Kind]++
				}
			}
		}
	}
	for kind := api.Insert; kind <= api.Move; kind++ {
		if effects[kind] < 50 || failures[kind] < 50 {
			t.Error(syntax.KindName(kind), effects[kind], failures[kind])
		}
	}
}

func TestExample(t *testing.T) {
	u := tree("book", "  section 5 | a tax")
	words, head, label := do(`in section 5 for "tax" put "duty" each`), doAs(7, 3, `head section 5 as "x"`), doAs(7, 4, "number section 5 as 6")
	expect(t, u, words, "words 3.1.1, name section 5", "words 3.1.1")
	if !footprint.Independent(u, words, head) || footprint.Independent(u, words, label) || footprint.Independent(u, head, label) {
		t.Error(texts(footprint.Writes(u, label)))
	}
}

// valid returns an instruction of every kind that is valid, and that takes effect on the sample if it is an amendment.
func valid() []api.Item {
	l := []api.Item{insertion("into section 3 first", "paragraph 1").It}
	for _, text := range []string{
		"repeal section 3", `in section 3 for "a" put "" each`, `in section 3 behind "a" put "x" each`, `head section 3 as "x"`, "number section 3 as 4", "move section 3 into part 2 last",
		"commence act 3 from day 5", "expire act 3 item 1 from day 5", "revive act 3 from day 0", "happen union on day 5", "correct act 3 item 1 as repeal section 3",
	} {
		l = append(l, parsed(text))
	}
	return l
}

// invalid returns amendments with a field that is not as it must be, which would have keys otherwise.
func invalid() []api.Item {
	var out []api.Item
	spoil := func(kind int, change func(it *api.Item)) {
		it := copyOfItem(valid()[kind])
		change(&it)
		out = append(out, it)
	}
	for kind := api.Insert; kind <= api.Move; kind++ {
		spoil(kind, func(it *api.Item) { it.For = "Tax" })
		spoil(kind, func(it *api.Item) { it.Start = api.Start{Kind: api.OnDay, Day: -1} })
		spoil(kind, func(it *api.Item) { it.Day = 5 })
		spoil(kind, func(it *api.Item) { it.By = []api.Item{parsed("repeal section 3")} })
		spoil(kind, func(it *api.Item) { it.At = append(slices.Clone(it.At), api.Step{Kind: api.Para, Label: "05"}) })
		spoil(kind, func(it *api.Item) { it.At = append(slices.Clone(it.At), api.Step{}) })
		spoil(kind, func(it *api.Item) { it.At = slices.Repeat([]api.Step{{Kind: api.Para, Label: "1"}}, 10) })
		if kind != api.Move {
			spoil(kind, func(it *api.Item) { it.To = it.At })
		}
	}
	for _, kind := range []int{api.Insert, api.Move} {
		spoil(kind, func(it *api.Item) { it.Where = -1 })
		spoil(kind, func(it *api.Item) { it.Where = 4 })
	}
	spoil(api.Insert, func(it *api.Item) { it.Unit = bare("book") })
	spoil(api.Insert, func(it *api.Item) { it.Unit.Id = number(90) })
	spoil(api.ReplaceWords, func(it *api.Item) { it.Old = nil })
	spoil(api.ReplaceWords, func(it *api.Item) { it.Nth = -1 })
	spoil(api.InsertWords, func(it *api.Item) { it.New = nil })
	spoil(api.InsertWords, func(it *api.Item) { it.Nth = 257 })
	spoil(api.Heading, func(it *api.Item) { it.New = []string{""} })
	spoil(api.Relabel, func(it *api.Item) { it.Label = "" })
	spoil(api.Move, func(it *api.Item) { it.To = []api.Step{{Kind: api.Part}} })
	return out
}

// TestKinds gives Reads and Writes instructions of every kind, of kinds below and above them, and valid and invalid ones.
func TestKinds(t *testing.T) {
	u := sample()
	for kind, it := range valid() {
		d := by(act, item, it)
		reads, writes := footprint.Reads(u, d), footprint.Writes(u, d)
		check(t, u, d)
		if isOrder := kind > api.Move; it.Kind != kind || isOrder != (len(reads) == 0) || isOrder != (len(writes) == 0) {
			t.Error(about(d), texts(reads), texts(writes))
		}
		for _, other := range []int{math.MinInt, -2, -1, 12, 13, math.MaxInt} {
			d.It.Kind = other
			expect(t, u, d, "", "")
		}
	}
	for _, it := range invalid() {
		if syntax.Valid(it) {
			t.Fatal(about(by(0, 0, it)))
		}
		expect(t, u, by(act, item, it), "", "")
	}
}

// TestForAndStart expects that neither the purpose nor the commencement of an instruction matters.
func TestForAndStart(t *testing.T) {
	u := sample()
	for _, text := range []string{"", " from day 30", " by order", " on event union", " read for tax", " read for tax from day 0"} {
		d := do("number section 3 as 4" + text)
		expect(t, u, d, "kids 0.0.0, name section 3", "kids 0.0.0, name section 3, name section 4")
		d.Day = -3
		expect(t, u, d, "kids 0.0.0, name section 3", "kids 0.0.0, name section 3, name section 4")
	}
}

// P25.1: addresses

// TestNames expects the names of all steps of At and To, but for a book step, whether they match or not.
func TestNames(t *testing.T) {
	u := sample()
	for _, c := range []struct{ text, reads, writes string }{
		{`head book as "x"`, "", ""},
		{`head all as "x"`, "", ""},
		{`head section 77 as "x"`, "name section 77", ""},
		{`head book section 77 paragraph 8 as "x"`, "name section 77, name paragraph 8", ""},
		{`head section 1 as "x"`, "name section 1", ""},                     // there are two of them
		{`head part 1 section 3 as "x"`, "name part 1, name section 3", ""}, // the section lies elsewhere
		{`head book part 1 section 1 as "x"`, "name part 1, name section 1", "head 3.1.2"},
		{`head book section 1 as "x"`, "name section 1", "head 3.1.8"},
		{`head paragraph 1 paragraph 1 as "x"`, "name paragraph 1", "head 3.1.4"},
		{"move book section 3 into book last", "kids 0.0.0, kids 3.1.14, kids 3.1.15, kids 3.1.16, kids 3.1.17, kids 3.1.18, name section 3", "kids 0.0.0, name section 3, name paragraph 3, name paragraph 4, name paragraph 5, name note 1"},
		{"move note 77 into all first", "name note 77", ""},
		{"move note 77 into book first", "name note 77", ""},
		{"move note 77 into part 1 section 5 paragraph 5A first", "name part 1, name section 5, name paragraph 5A, name note 77", ""},
		{"move note 1 behind book section 1", "name section 1, name note 1", ""},
	} {
		expect(t, u, do(c.text), c.reads, c.writes)
	}
}

// P25.1: Insert

func TestInsertPositions(t *testing.T) {
	u := sample()
	for _, c := range []struct{ place, reads, writes string }{
		{"into section 3 first", "kids 3.1.14, name section 3", "kids 3.1.14, name paragraph 8"},
		{"into section 3 last", "kids 3.1.14, name section 3", "kids 3.1.14, name paragraph 8"},
		{"ahead of paragraph 4", "kids 3.1.14, name paragraph 4", "kids 3.1.14, name paragraph 8"},
		{"behind section 3 paragraph 4", "kids 3.1.14, name section 3, name paragraph 4", "kids 3.1.14, name paragraph 8"},
		{"into paragraph 4 first", "kids 3.1.17, name paragraph 4", "kids 3.1.17, name paragraph 8"},
		{"into section 77 first", "name section 77", ""},
		{"into section 1 last", "name section 1", ""},
		{"behind section 1", "name section 1", ""},
		{"behind all", "", ""}, // refused: beside the book
		{"ahead of book", "", ""},
		{"into all first", "kids 0.0.0", ""}, // the book cannot contain it
		{"into book last", "kids 0.0.0", ""},
		{"behind section 3", "kids 0.0.0, name section 3", ""},
		{"into note 1 first", "name note 1", ""},
		{"into section 3 note 1 first", "kids 3.1.16, name section 3, name note 1", ""},
	} {
		expect(t, u, insertion(c.place, "paragraph 8 | w"), c.reads, c.writes)
	}
	expect(t, u, insertion("into all first", "section 8"), "kids 0.0.0", "kids 0.0.0, name section 8")
	expect(t, u, insertion("into section 3 first", "paragraph 4"), "kids 3.1.14, name section 3", "") // a kid has the label
}

// TestInsertedUnits inserts trees with several units, and with several units of one kind and label.
func TestInsertedUnits(t *testing.T) {
	u := sample()
	expect(t, u, insertion("into all last", "part 9: h | w", "  section 10", "    paragraph 2 | w", "    paragraph 1", "    table 1", "      row 1", "        cell 1", "    note 1", "  section 2"),
		"kids 0.0.0", "kids 0.0.0, name part 9, name section 10, name section 2, name paragraph 1, name paragraph 2, name table 1, name row 1, name cell 1, name note 1")
	expect(t, u, insertion("into section 3 first", "paragraph 8", "  paragraph 8", "    note 1", "  note 1"), "kids 3.1.14, name section 3", "kids 3.1.14, name paragraph 8, name note 1")
	expect(t, u, insertion("into section 3 first", "paragraph 8", "  paragraph 8", "    paragraph 8"), "kids 3.1.14, name section 3", "kids 3.1.14, name paragraph 8")
}

// TestKnownIDs inserts units into a book that holds some of the IDs that they would get.
func TestKnownIDs(t *testing.T) {
	three := insertion("into all last", "section 8", "  paragraph 1", "  paragraph 2")
	for n, reads := range map[int]string{
		-1: "kids 0.0.0", 0: "kids 0.0.0", 4: "kids 0.0.0",
		1: "kids 0.0.0, kids 7.2.1", 2: "kids 0.0.0, kids 7.2.2", 3: "kids 0.0.0, kids 7.2.3",
	} {
		u := tree("book", "  section 1 | a", "    paragraph 1", "  section 2 | b")
		u.Kids[0].Kids[0].Id = api.Id{Act: act, Item: item, N: n}
		writes := ""
		if n < 1 || n > 3 {
			writes = "kids 0.0.0, name section 8, name paragraph 1, name paragraph 2"
		}
		expect(t, u, three, reads, writes)
		for _, id := range []api.Id{{Act: act + 1, Item: item, N: n}, {Act: act, Item: item + 1, N: n}, {Act: item, Item: act, N: n}} {
			u.Kids[0].Kids[0].Id = id
			expect(t, u, three, "kids 0.0.0", "kids 0.0.0, name section 8, name paragraph 1, name paragraph 2")
		}
	}
	u := tree("book", "  section 1 | a", "    paragraph 1", "      paragraph 1", "  section 2 | b")
	u.Kids[0].Id, u.Kids[0].Kids[0].Id, u.Kids[1].Id = api.Id{Act: act, Item: item, N: 2}, api.Id{Act: act, Item: item, N: 3}, api.Id{Act: act, Item: item, N: 1}
	for _, c := range []struct {
		d     api.EnactedItem
		reads string
	}{
		{three, "kids 0.0.0, kids 7.2.1, kids 7.2.2, kids 7.2.3"},
		{insertion("into all last", "section 8"), "kids 0.0.0, kids 7.2.1"},
		{insertion("behind all", "section 8", "  note 1"), "kids 7.2.1, kids 7.2.2"}, // the destination is refused
		{insertion("into section 1 first", "paragraph 8", "  note 1"), "kids 7.2.1, kids 7.2.2, name section 1"},
		{insertion("into section 2 first", "row 8", "  cell 1", "  cell 2"), "kids 7.2.1, kids 7.2.2, kids 7.2.3, name section 2"},
		{insertion("into section 77 first", "paragraph 8"), "name section 77"}, // there is no target
		{insertion("into paragraph 1 first", "paragraph 8"), "name paragraph 1"},
	} {
		expect(t, u, c.d, c.reads, "")
	}
	u = roots()[0]
	u.Id = api.Id{Act: act, Item: item, N: 1}
	expect(t, u, insertion("into section 1 first", "paragraph 8"), "kids 3.1.1, kids 7.2.1, name section 1", "")
	expect(t, u, insertion("behind all", "section 8"), "kids 7.2.1", "")
	d := insertion("into all last", "section 8", "  note 1")
	d.Act, d.Item = 0, 0 // the ID of the book is not among the new ones
	expect(t, sample(), d, "kids 0.0.0", "kids 0.0.0, name section 8, name note 1")
}

// P25.1: Repeal

func TestRepeal(t *testing.T) {
	u := sample()
	for _, c := range []struct{ text, reads, writes string }{
		{"repeal part 2", "name part 2", "words 3.1.19, head 3.1.19, kids 0.0.0, kids 3.1.19, name part 2"},
		{"repeal paragraph 4", "name paragraph 4", "words 3.1.17, head 3.1.17, kids 3.1.14, kids 3.1.17, name paragraph 4"},
		{"repeal section 1 paragraph 1", "name section 1, name paragraph 1", "words 3.1.3, words 3.1.4, words 3.1.5, head 3.1.3, head 3.1.4, head 3.1.5, kids 3.1.2, kids 3.1.3, kids 3.1.4, kids 3.1.5, name paragraph 1, name note 1"},
		{"repeal table 1", "name table 1", "words 3.1.9, words 3.1.10, words 3.1.11, words 3.1.12, words 3.1.13, head 3.1.9, head 3.1.10, head 3.1.11, head 3.1.12, head 3.1.13, kids 3.1.8, kids 3.1.9, kids 3.1.10, kids 3.1.11, kids 3.1.12, kids 3.1.13, name table 1, name row 1, name row 2, name cell 1, name cell 2"},
		{"repeal all", "", ""},
		{"repeal book", "", ""},
		{"repeal section 1", "name section 1", ""},
		{"repeal section 77", "name section 77", ""},
	} {
		expect(t, u, do(c.text), c.reads, c.writes)
	}
	for _, u := range roots() {
		expect(t, u, do("repeal all"), "", "")
	}
}

// P25.1: words and headings

func TestWordsAndHeadings(t *testing.T) {
	u := sample()
	words, name := "words 3.1.14", "name section 3"
	for _, c := range []struct{ text, reads, writes string }{
		{`in section 3 for "a" put "c" each`, words + "," + name, words},
		{`in section 3 for "a" put "a" each`, words + "," + name, words}, // the marks change
		{`in section 3 for "b a" put "" at 2`, words + "," + name, words},
		{`in section 3 for "z" put "c" each`, words + "," + name, ""},
		{`in section 3 for "a" put "c" at 4`, words + "," + name, ""},
		{`in section 3 for "a" put "` + strings.Repeat("c ", 255) + `c" at 1`, words + "," + name, ""}, // too many words
		{`in section 3 behind "a" put "c" each`, words + "," + name, words},
		{`in section 3 ahead of all put "c"`, words + "," + name, words},
		{`in section 3 behind "z" put "c" each`, words + "," + name, ""},
		{`in section 3 behind "a" put "c" at 4`, words + "," + name, ""},
		{`in all for "a" put "c" each`, "words 0.0.0", ""},
		{`in book ahead of all put "c"`, "words 0.0.0", ""},
		{`in section 1 for "a" put "c" each`, "name section 1", ""},
		{`in section 77 ahead of all put "c"`, "name section 77", ""},
		{`head section 3 as "c"`, name, "head 3.1.14"},
		{`head section 3 as ""`, name, "head 3.1.14"},
		{`head all as "c"`, "", ""},
		{`head section 1 as "c"`, "name section 1", ""},
		{`head section 77 as "c"`, "name section 77", ""},
		{`head paragraph 5 as ""`, "name paragraph 5", "head 3.1.18"}, // which has none
	} {
		expect(t, u, do(c.text), c.reads, c.writes)
	}
	part := roots()[0]
	expect(t, part, do(`in all for "a" put "c" each`), "words 3.1.0", "")
	expect(t, part, do(`head part 1 as "c"`), "name part 1", "")
}

// P25.1: Relabel

func TestRelabel(t *testing.T) {
	u := sample()
	for _, c := range []struct{ text, reads, writes string }{
		{"number section 3 as 2", "kids 0.0.0, name section 3", "kids 0.0.0, name section 2, name section 3"},
		{"number paragraph 5 as 1", "kids 3.1.14, name paragraph 5", "kids 3.1.14, name paragraph 1, name paragraph 5"},
		{"number section 3 note 1 as 9", "kids 3.1.14, name section 3, name note 1", "kids 3.1.14, name note 1, name note 9"},
		{"number section 3 as 3", "kids 0.0.0, name section 3", ""},                               // its own label
		{"number section 3 as 1", "kids 0.0.0, name section 3", ""},                               // a sibling has it
		{"number paragraph 4 as 3", "kids 3.1.14, name paragraph 4", ""},                          // a sibling has it
		{"number row 2 as 1", "kids 3.1.9, name row 2", ""},                                       // a sibling has it
		{"number part 1 as 3", "kids 0.0.0, name part 1", "kids 0.0.0, name part 1, name part 3"}, // a sibling of another kind has it
		{"number all as 1", "", ""},
		{"number book as 1", "", ""},
		{"number section 1 as 9", "name section 1", ""},
		{"number section 77 as 9", "name section 77", ""},
	} {
		expect(t, u, do(c.text), c.reads, c.writes)
	}
	for _, u := range roots() {
		expect(t, u, do("number all as 9"), "", "")
	}
	expect(t, roots()[0], do("number part 1 as 9"), "name part 1", "")
}

// P25.1: Move

func TestMove(t *testing.T) {
	u := sample()
	three := "kids 3.1.14, kids 3.1.15, kids 3.1.16, kids 3.1.17, kids 3.1.18"
	threeNames := "name section 3, name paragraph 3, name paragraph 4, name paragraph 5, name note 1"
	everything := "kids 0.0.0"
	for n := 1; n <= 19; n++ {
		everything += fmt.Sprint(", kids 3.1.", n)
	}
	for _, c := range []struct{ text, reads, writes string }{
		{"move section 3 into part 2 last", three + ", kids 3.1.19, name part 2, name section 3", "kids 0.0.0, kids 3.1.19, " + threeNames},
		{"move section 3 behind section 2", "kids 3.1.1," + three + ", name section 2, name section 3", "kids 0.0.0, kids 3.1.1, " + threeNames},
		{"move section 3 into all first", "kids 0.0.0, " + three + ", name section 3", "kids 0.0.0, " + threeNames},
		{"move section 3 ahead of part 1", "kids 0.0.0, " + three + ", name part 1, name section 3", "kids 0.0.0, " + threeNames},
		{"move section 3 behind section 3", "kids 0.0.0, " + three + ", name section 3", "kids 0.0.0, " + threeNames}, // where it is
		{"move paragraph 5 ahead of paragraph 3", "kids 3.1.14, kids 3.1.18, name paragraph 3, name paragraph 5", "kids 3.1.14, name paragraph 5"},
		{"move paragraph 5 into section 2 first", "kids 3.1.7, kids 3.1.18, name section 2, name paragraph 5", "kids 3.1.7, kids 3.1.14, name paragraph 5"},
		{"move paragraph 5 into section 77 first", "kids 3.1.18, name section 77, name paragraph 5", ""},
		{"move paragraph 5 into section 1 first", "kids 3.1.18, name section 1, name paragraph 5", ""},
		{"move section 3 behind all", three + ", name section 3", ""},
		{"move section 3 into section 3 last", three + ", name section 3", ""},
		{"move section 3 behind paragraph 4", three + ", name section 3, name paragraph 4", ""}, // below the target
		{"move section 3 into paragraph 4 first", three + ", name section 3, name paragraph 4", ""},
		{"move section 3 into section 2 first", "kids 3.1.7, " + three + ", name section 2, name section 3", ""},                                                             // sections do not contain sections
		{"move book section 1 into part 1 first", "kids 3.1.1, kids 3.1.8, kids 3.1.9, kids 3.1.10, kids 3.1.11, kids 3.1.12, kids 3.1.13, name part 1, name section 1", ""}, // its label is taken
		{"move all into part 1 first", everything + ", name part 1", ""},
		{"move book into book last", everything, ""},
		{"move section 1 into part 2 first", "name part 2, name section 1", ""},
		{"move section 77 into part 2 first", "name part 2, name section 77", ""},
		{"move section 77 into part 77 first", "name part 77, name section 77", ""},
		{"move section 1 paragraph 1 into section 2 last", "kids 3.1.3, kids 3.1.4, kids 3.1.5, kids 3.1.7, name section 1, name section 2, name paragraph 1", "kids 3.1.2, kids 3.1.7, name paragraph 1, name note 1"},
	} {
		expect(t, u, do(c.text), c.reads, c.writes)
	}
}

// P25.1: the order of keys

// TestOrderOfIDs repeals units whose IDs differ in one number only, and are neither in document order nor in the order of their texts.
func TestOrderOfIDs(t *testing.T) {
	u := tree("book", "  section 1", "    paragraph 1", "    paragraph 2", "    paragraph 3", "    paragraph 4", "    paragraph 5", "    paragraph 6", "    paragraph 7", "  section 2")
	ids := []api.Id{{Act: 2, Item: 0, N: 9}, {Act: 2, Item: 10, N: 1}, {Act: 10, Item: 0, N: 9}, {Act: 2, Item: 0, N: 10}, {Act: -1, Item: 99, N: 99}, {Act: 2, Item: -5, N: 99}, {Act: 2, Item: 0, N: -9}, {Act: 2, Item: 9, N: 1}}
	for i, x := range places(&u)[1:9] {
		x.u.Id = ids[i]
	}
	sorted := []string{"-1.99.99", "2.-5.99", "2.0.-9", "2.0.9", "2.0.10", "2.9.1", "2.10.1", "10.0.9"}
	words, heads, kids := "words "+strings.Join(sorted, ", words "), "head "+strings.Join(sorted, ", head "), "kids "+strings.Join(sorted, ", kids ")
	names := "name section 1, name paragraph 1, name paragraph 2, name paragraph 3, name paragraph 4, name paragraph 5, name paragraph 6, name paragraph 7"
	root := "kids 0.0.0, "
	expect(t, u, do("repeal section 1"), "name section 1", words+", "+heads+", "+strings.Replace(kids, ", ", ", "+root, 1)+", "+names)
	expect(t, u, do("move section 1 behind section 2"), strings.Replace(kids, ", ", ", "+root, 1)+", name section 1, name section 2", root+names)
}

// TestOrderOfNames inserts units whose names differ in the kind or the label only, and are not in document order.
func TestOrderOfNames(t *testing.T) {
	d := insertion("into all last", "section 2", "  note 10", "  paragraph 2A", "    table 10", "      row 2", "        cell 2", "        cell 10", "      row 1", "    note 2", "  paragraph 10", "  table 2", "  paragraph 2", "  paragraph 1A")
	expect(t, sample(), d, "kids 0.0.0", "kids 0.0.0, name section 2, name paragraph 10, name paragraph 1A, name paragraph 2, name paragraph 2A, name table 10, name table 2, name row 1, name row 2, name cell 10, name cell 2, name note 10, name note 2")
	expect(t, sample(), do("repeal note 2 paragraph 2 note 10 paragraph 10 section 2 part 10 table 2A row 2 cell 1"), "name part 10, name section 2, name paragraph 10, name paragraph 2, name table 2A, name row 2, name cell 1, name note 10, name note 2", "")
	expect(t, sample(), do("move paragraph 2 note 1 into paragraph 2 paragraph 1 note 1 first"), "name paragraph 1, name paragraph 2, name note 1", "") // names in both addresses
}

// P25.1: Intersect

func TestIntersect(t *testing.T) {
	one, two, three := keysOf("words 1.2.3, head 1.2.3, name part 1"), keysOf("words 1.2.4, words 1.3.3, words 2.2.3, kids 1.2.3, name part 2, name section 1"), keysOf("kids 0.0.0")
	for i, c := range []struct {
		a, b []api.Key
		want bool
	}{
		{nil, nil, false}, {[]api.Key{}, nil, false}, {nil, one, false}, {one, nil, false},
		{one, one, true}, {two, two, true}, {three, three, true}, {one, two, false}, {one, three, false}, {two, three, false},
		{one, slices.Concat(one[:1], two), true}, {one, slices.Concat(two, one[2:]), true}, {one, slices.Concat(two[:3], one[1:2], two[3:]), true}, // one in common
		{slices.Concat(two, one[:1]), one, true}, {slices.Concat(one[2:], two), one, true},
		{slices.Concat(two, two), slices.Concat(one, one), false}, {slices.Concat(two, two, one, one), slices.Concat(three, one[1:2]), true}, // twice, not sorted
		{[]api.Key{{}}, keysOf("words 0.0.0"), true}, {[]api.Key{{}}, one, false}, {one, []api.Key{{}}, false},
		{[]api.Key{{Kind: 77, Name: api.Step{Kind: -1, Label: "x"}}}, []api.Key{{Kind: 77, Name: api.Step{Kind: -1, Label: "x"}}}, true},
		{[]api.Key{{Kind: 77, Name: api.Step{Kind: -1, Label: "x"}}}, []api.Key{{Kind: 77, Name: api.Step{Kind: -1, Label: "y"}}, {Kind: 77, Name: api.Step{Kind: 1, Label: "x"}}, {Kind: 76, Name: api.Step{Kind: -1, Label: "x"}}}, false},
	} {
		if footprint.Intersect(c.a, c.b) != c.want || footprint.Intersect(c.b, c.a) != c.want {
			t.Error(i, texts(c.a), texts(c.b))
		}
	}
}

// TestIntersectEveryPair compares Intersect with a search for each key, for all short lists of keys that differ in one field.
func TestIntersectEveryPair(t *testing.T) {
	keys := []api.Key{{}, {Kind: 1}, {Id: api.Id{Act: 1}}, {Id: api.Id{Item: 1}}, {Id: api.Id{N: 1}}, {Name: api.Step{Kind: 1}}, {Name: api.Step{Label: "1"}}, {Kind: -1}, {Id: api.Id{Act: -1}}}
	var lists [][]api.Key
	for i := range keys {
		lists = append(lists, keys[i:i+1])
		for k := range keys {
			lists = append(lists, []api.Key{keys[i], keys[k]})
		}
	}
	for _, a := range lists {
		for _, b := range lists {
			if got := footprint.Intersect(a, b); got != overlap(a, b) {
				t.Fatal(a, b, got)
			}
		}
	}
}

// P25.3

func TestFormatKey(t *testing.T) {
	for _, c := range []struct {
		k    api.Key
		want string
	}{
		{api.Key{}, "words 0.0.0"},
		{api.Key{Kind: api.KeyWords, Id: api.Id{Act: 1, Item: 2, N: 3}}, "words 1.2.3"},
		{api.Key{Kind: api.KeyHead, Id: api.Id{Act: 10, Item: 0, N: 100}}, "head 10.0.100"},
		{api.Key{Kind: api.KeyKids, Id: api.Id{Act: -1, Item: -20, N: -3}}, "kids -1.-20.-3"},
		{api.Key{Kind: api.KeyKids, Id: api.Id{Act: math.MaxInt64, Item: math.MinInt64, N: 0}}, "kids 9223372036854775807.-9223372036854775808.0"},
		{api.Key{Kind: api.KeyName, Name: api.Step{Kind: api.Section, Label: "5A"}}, "name section 5A"},
		{api.Key{Kind: api.KeyName}, "name book"},
		{api.Key{Kind: api.KeyName, Id: api.Id{Act: 1}, Name: api.Step{Kind: api.Note, Label: "9999ZZZ"}}, "name note 9999ZZZ"}, // the ID does not matter
		{api.Key{Kind: api.KeyHead, Id: api.Id{Act: 1}, Name: api.Step{Kind: api.Note, Label: "1"}}, "head 1.0.0"},              // nor does the name
		{api.Key{Kind: api.KeyName, Name: api.Step{Kind: -1, Label: "1"}}, "name "},
		{api.Key{Kind: api.KeyName, Name: api.Step{Kind: 8, Label: "1"}}, "name "},
		{api.Key{Kind: api.KeyName, Name: api.Step{Kind: api.Part, Label: "05"}}, "name "},
		{api.Key{Kind: api.KeyName, Name: api.Step{Kind: api.Part, Label: "part 5"}}, "name "},
	} {
		if got := footprint.FormatKey(c.k); got != c.want {
			t.Errorf("%+v: %q", c.k, got)
		}
	}
	for _, kind := range []int{math.MinInt, -2, -1, 4, 5, math.MaxInt} {
		if got := footprint.FormatKey(api.Key{Kind: kind, Id: api.Id{Act: 1, Item: 2, N: 3}, Name: api.Step{Kind: api.Part, Label: "1"}}); got != "" {
			t.Error(kind, got)
		}
	}
}

// TestFormatNames formats the names of units of every kind, with and without a label.
func TestFormatNames(t *testing.T) {
	for kind, name := range []string{"book", "part", "section", "paragraph", "table", "row", "cell", "note"} {
		with, without := "name "+name+" 12A", "name "
		if kind == api.Book {
			with, without = "name ", "name book"
		}
		if got := footprint.FormatKey(api.Key{Kind: api.KeyName, Name: api.Step{Kind: kind, Label: "12A"}}); got != with {
			t.Errorf("%d %q", kind, got)
		}
		if got := footprint.FormatKey(api.Key{Kind: api.KeyName, Name: api.Step{Kind: kind}}); got != without {
			t.Errorf("%d %q", kind, got)
		}
	}
}
