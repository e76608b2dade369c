package enact_test

import (
	"fmt"
	"math"
	"math/rand"
	"slices"
	"testing"

	"pandect/api"
	"pandect/enact"
	"pandect/syntax"
	"pandect/unit"
)

// P23.1: two failures

// possiblePairs returns the pairs of failures that can apply to one amendment, in the order of the table, except for those with ErrArg.
func possiblePairs() []pair {
	none, many, kind, twin, full, exists, missing := api.ErrNoTarget, api.ErrAmbiguous, api.ErrKind, api.ErrDuplicateLabel, api.ErrFull, api.ErrExists, api.ErrMissing
	l := []pair{
		{api.Insert, none, full}, {api.Insert, none, exists}, {api.Insert, many, full}, {api.Insert, many, exists},
		{api.Insert, kind, full}, {api.Insert, kind, exists}, {api.Insert, twin, full}, {api.Insert, twin, exists}, {api.Insert, full, exists},
		{api.ReplaceWords, kind, missing}, {api.ReplaceWords, kind, full}, {api.InsertWords, kind, missing}, {api.InsertWords, kind, full},
		{api.Move, none, none}, {api.Move, none, many}, {api.Move, many, none}, {api.Move, many, many}, // of At and of To
		{api.Move, none, kind}, {api.Move, many, kind}, {api.Move, kind, twin}, {api.Move, kind, full}, {api.Move, twin, full},
	}
	for k := api.Insert; k <= api.Move; k++ {
		for _, errno := range []api.Errno{none, many, kind, twin, full, exists, missing} {
			l = append(l, pair{k, api.ErrArg, errno})
		}
	}
	return l
}

// failing is an amendment to which the failures apply, and no others.
type failing struct {
	u    api.Unit
	d    api.EnactedItem
	errs []api.Errno
}

// singles returns amendments to which one failure applies, for each failure of each kind.
func singles() []failing {
	u, full := sample(), withKids(64)
	one := func(u api.Unit, d api.EnactedItem, errno api.Errno) failing {
		return failing{u, d, []api.Errno{errno}}
	}
	known := insertion("into section 3 first", "paragraph 9")
	known.Act, known.Item = 3, 1
	long := tree("book", "  section 1 | "+times(256, "a"))
	l := []failing{
		one(u, insertion("into section 77 first", "paragraph 9"), api.ErrNoTarget), one(u, insertion("behind section 1", "section 9"), api.ErrAmbiguous),
		one(u, insertion("behind all", "section 9"), api.ErrKind), one(u, insertion("into section 3 first", "row 9"), api.ErrKind),
		one(u, insertion("into section 3 first", "paragraph 4"), api.ErrDuplicateLabel),
		one(full, insertion("into section 1 first", "paragraph 100"), api.ErrFull), one(large(1024), insertion("into all last", "section 99"), api.ErrFull),
		one(tree(append([]string{"book", "  section 1"}, nested(7, 2)...)...), insertion("into section 1 first", "paragraph 2", nested(7, 1)[0], nested(7, 1)[1], nested(7, 1)[2], nested(7, 1)[3], nested(7, 1)[4], nested(7, 1)[5], nested(7, 1)[6]), api.ErrFull),
		one(u, known, api.ErrExists),
		one(u, do("repeal all"), api.ErrKind), one(u, do("head all as \"\""), api.ErrKind), one(u, do("number all as 1"), api.ErrKind),
		one(roots()[0], do(`in all for "a" put "b" each`), api.ErrKind), one(roots()[0], do(`in all behind "a" put "b" at 2`), api.ErrKind), one(u, do(`in all ahead of all put "b"`), api.ErrKind),
		one(u, do(`in section 3 for "z" put "b" each`), api.ErrMissing), one(u, do(`in section 3 for "a" put "b" at 4`), api.ErrMissing),
		one(u, do(`in section 3 behind "z" put "b" each`), api.ErrMissing), one(u, do(`in section 3 behind "a" put "b" at 4`), api.ErrMissing),
		one(long, do(`in section 1 for "a" put "b b" at 1`), api.ErrFull), one(long, do(`in section 1 behind "a" put "b" at 1`), api.ErrFull), one(long, do(`in section 1 ahead of all put "b"`), api.ErrFull),
		one(u, do("number section 3 as 1"), api.ErrDuplicateLabel),
		one(u, do("move section 3 into section 77 first"), api.ErrNoTarget), one(u, do("move section 3 into section 1 first"), api.ErrAmbiguous),
		one(u, do("move all into part 2 first"), api.ErrKind), one(u, do("move section 3 behind all"), api.ErrKind), one(u, do("move section 3 into section 3 first"), api.ErrKind), one(u, do("move part 1 behind section 2"), api.ErrKind), one(u, do("move paragraph 3 into part 2 first"), api.ErrKind),
		one(u, do("move book section 1 into part 1 first"), api.ErrDuplicateLabel),
		one(full, do("move paragraph 99 into section 1 first"), api.ErrFull),
		one(tree(append([]string{"book", "  section 1", "    paragraph 2", "      note 1"}, nested(6, 2)...)...), do("move paragraph 2 into paragraph 1 paragraph 1 paragraph 1 paragraph 1 paragraph 1 paragraph 1 first"), api.ErrFull),
	}
	for _, text := range []string{"repeal %s", `in %s for "a" put "" each`, `in %s behind "a" put "b" each`, `in %s ahead of all put "b"`, `head %s as "x"`, "number %s as 9", "move %s into part 2 last"} {
		l = append(l, one(u, do(fmt.Sprintf(text, "section 77")), api.ErrNoTarget), one(u, do(fmt.Sprintf(text, "section 1")), api.ErrAmbiguous))
	}
	return l
}

// doubles returns amendments to which two failures apply, for each pair without ErrArg.
func doubles() []failing {
	u, full, huge, book := sample(), withKids(64), large(1024), tree("book", "  section 1", "    paragraph 1 | a", "    paragraph 2")
	two := func(u api.Unit, d api.EnactedItem, a, b api.Errno) failing { return failing{u, d, []api.Errno{a, b}} }
	known := func(place string, l ...string) api.EnactedItem {
		d := insertion(place, l...)
		d.Act, d.Item = 3, 1
		return d
	}
	worded := tree("section 1 | " + times(256, "a"))
	inside := tree("book", "  section 1", "    paragraph 1", "      paragraph 2", "        paragraph 1")
	crowded := tree(append([]string{"book", "  section 1", "    paragraph 1", "    table 1"}, numbered(64, "      row")...)...)
	twins := withKids(64)
	twins.Kids[1].Kids[0].Label = "7"
	return []failing{
		two(huge, insertion("into section 77 first", "paragraph 9"), api.ErrNoTarget, api.ErrFull), two(u, known("into section 77 first", "paragraph 9"), api.ErrNoTarget, api.ErrExists),
		two(huge, insertion("into paragraph 2 first", "paragraph 9"), api.ErrAmbiguous, api.ErrFull), two(u, known("into section 1 first", "paragraph 9"), api.ErrAmbiguous, api.ErrExists),
		two(huge, insertion("behind all", "section 99"), api.ErrKind, api.ErrFull), two(full, insertion("into section 1 first", "part 9"), api.ErrKind, api.ErrFull), two(u, known("ahead of book", "section 9"), api.ErrKind, api.ErrExists), two(u, known("into section 3 first", "row 9"), api.ErrKind, api.ErrExists),
		two(full, insertion("into section 1 first", "paragraph 64"), api.ErrDuplicateLabel, api.ErrFull), two(huge, insertion("behind section 1", "section 2"), api.ErrDuplicateLabel, api.ErrFull), two(u, known("into section 3 first", "paragraph 4"), api.ErrDuplicateLabel, api.ErrExists),
		two(full, known("into section 1 first", "paragraph 100"), api.ErrFull, api.ErrExists), two(huge, known("into all last", "section 99"), api.ErrFull, api.ErrExists),
		two(roots()[0], do(`in all for "z" put "b" each`), api.ErrKind, api.ErrMissing), two(u, do(`in book for "a" put "b" at 1`), api.ErrKind, api.ErrMissing), two(worded, do(`in all for "a" put "b b" each`), api.ErrKind, api.ErrFull),
		two(roots()[0], do(`in all behind "a" put "b" at 3`), api.ErrKind, api.ErrMissing), two(u, do(`in book behind "a" put "b" each`), api.ErrKind, api.ErrMissing), two(worded, do(`in all behind "a" put "b" at 1`), api.ErrKind, api.ErrFull), two(worded, do(`in all ahead of all put "b"`), api.ErrKind, api.ErrFull),
		two(u, do("move section 77 into section 78 first"), api.ErrNoTarget, api.ErrNoTarget), two(u, do("move section 77 into section 1 first"), api.ErrNoTarget, api.ErrAmbiguous), two(u, do("move section 1 into section 77 first"), api.ErrAmbiguous, api.ErrNoTarget), two(u, do("move section 1 into section 1 first"), api.ErrAmbiguous, api.ErrAmbiguous),
		two(u, do("move section 77 behind all"), api.ErrNoTarget, api.ErrKind), two(u, do("move section 1 behind all"), api.ErrAmbiguous, api.ErrKind),
		two(u, do("move all into section 77 first"), api.ErrNoTarget, api.ErrKind), two(u, do("move all into section 1 first"), api.ErrAmbiguous, api.ErrKind), // To comes before the root as the target
		two(inside, do("move section 1 paragraph 1 into section 1 paragraph 1 paragraph 2 first"), api.ErrKind, api.ErrDuplicateLabel),
		two(crowded, do("move paragraph 1 into table 1 last"), api.ErrKind, api.ErrFull),
		two(twins, do("move section 2 paragraph 7 into section 1 first"), api.ErrDuplicateLabel, api.ErrFull),
		two(book, do("move all behind section 77"), api.ErrNoTarget, api.ErrKind),
	}
}

// TestPairs expects the failure that is named first where two can apply together, and that there is an amendment with each pair.
func TestPairs(t *testing.T) {
	left := map[pair]bool{}
	for _, p := range possiblePairs() {
		left[p] = true
	}
	try := func(f failing) {
		t.Helper()
		expect(t, f.u, f.d, f.errs[0])
		if got := applying(f.u, f.d); !slices.Equal(got, f.errs) {
			t.Fatal(about(f.d), got)
		}
		for _, p := range pairsOf(f.d.It.Kind, f.errs) {
			delete(left, p)
		}
	}
	for _, f := range singles() {
		try(f)
		f.d.It.For = "Tax" // not a name
		f.errs = append([]api.Errno{api.ErrArg}, f.errs...)
		try(f)
	}
	for _, f := range doubles() {
		try(f)
		f.d.It.Start.Day = -1
		f.errs = append([]api.Errno{api.ErrArg}, f.errs...)
		try(f)
	}
	impossible := map[int][]api.Errno{ // with ErrArg: failures that the kind does not have
		api.Insert: {api.ErrMissing}, api.Repeal: {api.ErrDuplicateLabel, api.ErrFull, api.ErrExists, api.ErrMissing}, api.ReplaceWords: {api.ErrDuplicateLabel, api.ErrExists}, api.InsertWords: {api.ErrDuplicateLabel, api.ErrExists},
		api.Heading: {api.ErrDuplicateLabel, api.ErrFull, api.ErrExists, api.ErrMissing}, api.Relabel: {api.ErrFull, api.ErrExists, api.ErrMissing}, api.Move: {api.ErrExists, api.ErrMissing},
	}
	for p := range left {
		if p.a != api.ErrArg || !slices.Contains(impossible[p.kind], p.b) {
			t.Error("no amendment with", syntax.KindName(p.kind), p.a, p.b)
		}
	}
}

// TestFailuresChangeNothing looks at the book beside each failure, its IDs and marks too, and at what follows from it.
func TestFailuresChangeNothing(t *testing.T) {
	for _, f := range slices.Concat(singles(), doubles()) {
		kept := copyOf(f.u)
		got, errno := enact.Apply(f.u, f.d)
		all, failures := enact.ApplyAll(f.u, f.d, f.d)
		want := api.Failure{Act: f.d.Act, Item: f.d.Item, Why: errno}
		if errno == api.OK || !unit.Equal(got, kept) || !unit.Equal(all, kept) || !unit.Equal(f.u, kept) || !slices.Equal(failures, []api.Failure{want, want}) {
			t.Error(about(f.d), errno, failures)
		}
		if l := enact.Affected(f.u, f.d); len(l) != 0 {
			t.Error(about(f.d), l)
		}
	}
}

// P23.2: ApplyAll and ApplyAct

// oneByOne applies the items one after the other, as the chapter says, and returns the failures.
func oneByOne(t *testing.T, u api.Unit, l []api.EnactedItem) (api.Unit, []api.Failure) {
	t.Helper()
	var failures []api.Failure
	for _, d := range l {
		if d.It.Kind < api.Insert || d.It.Kind > api.Move {
			continue
		}
		if errs := check(t, u, d); len(errs) > 0 {
			failures = append(failures, api.Failure{Act: d.Act, Item: d.Item, Why: errs[0]})
			continue
		}
		u, _ = amended(u, d)
	}
	return u, failures
}

// checkAll compares ApplyAll with the model.
func checkAll(t *testing.T, u api.Unit, l []api.EnactedItem) (api.Unit, []api.Failure) {
	t.Helper()
	want, failures := oneByOne(t, u, l)
	got, f := enact.ApplyAll(u, l...)
	if !unit.Equal(got, want) || !slices.Equal(f, failures) {
		t.Fatalf("%v, want %v\n%v\nwant\n%v", f, failures, lines(got), lines(want))
	}
	return got, f
}

func TestApplyAllOfNothing(t *testing.T) {
	for _, u := range append(books(), enact.Empty()) {
		got, failures := enact.ApplyAll(u)
		if !unit.Equal(got, u) || len(failures) != 0 {
			t.Error(failures)
		}
		got, failures = enact.ApplyAct(u, api.Act{Number: 4, Title: "Fish Act", Day: 9})
		if !unit.Equal(got, u) || len(failures) != 0 {
			t.Error(failures)
		}
	}
}

// numberedItems returns items with those instructions, with acts that begin with 5 and items that do not go on one by one.
func numberedItems(l ...api.Item) []api.EnactedItem {
	var out []api.EnactedItem
	for i, it := range l {
		out = append(out, by(5+i/3, 2*i, it))
	}
	return out
}

// dependent returns instructions of which many depend on earlier ones, with others between them.
func dependent() []api.Item {
	return []api.Item{
		insertion("into all first", "section 1 | a b a", "  paragraph 1 | c").It,
		parsed("commence act 5 item 0 from day 7"),
		parsed(`in section 1 for "b" put "c d" each read for tax`),
		parsed(`in section 1 for "b" put "c d" each`), // there is no b any more
		parsed(`in section 1 behind "d" put "e" each by order`),
		parsed("happen union on day 9"),
		parsed("number section 1 as 2 on event union"),
		parsed("head section 1 as \"gone\""), // now section 2
		parsed("head section 2 as \"h\" from day 1048576"),
		{Kind: api.ReplaceWords},
		parsed("correct act 5 item 0 as repeal section 2"),
		insertion("behind section 2", "section 1 | see section 2").It,
		parsed("move section 2 behind section 1"),
		{Kind: -1},
		{Kind: 12},
		parsed("repeal paragraph 1"),
		parsed("repeal paragraph 1"), // twice
		parsed("expire act 5 from day 7"),
		parsed("revive act 5 from day 7"),
	}
}

func TestApplyAllInOrder(t *testing.T) {
	l := numberedItems(dependent()...)
	u, failures := checkAll(t, enact.Empty(), l)
	want := []api.Failure{{Act: 6, Item: 6, Why: api.ErrMissing}, {Act: 7, Item: 14, Why: api.ErrNoTarget}, {Act: 8, Item: 18, Why: api.ErrArg}, {Act: 10, Item: 32, Why: api.ErrNoTarget}}
	if !slices.Equal(failures, want) {
		t.Error(failures)
	}
	text := []string{"book", "  section 1 | see section 2", "  section 2: h | a c d e a"}
	if got := lines(u); !slices.Equal(got, text) {
		t.Error(got)
	}
	// Another order has another result.
	slices.Reverse(l)
	u, failures = checkAll(t, enact.Empty(), l)
	text = []string{"book", "  section 1 | a b a", "    paragraph 1 | c"}
	if got := lines(u); !slices.Equal(got, text) || len(failures) != 11 {
		t.Error(got, failures)
	}
}

// TestApplyAllOfEveryKind puts items of other kinds between amendments, of which none, some or all fail.
func TestApplyAllOfEveryKind(t *testing.T) {
	var l []api.Item
	for _, it := range valid() {
		l = append(l, it, it, api.Item{Kind: it.Kind + 12}, api.Item{Kind: -it.Kind - 1})
	}
	l = append(l, invalid()...)
	checkAll(t, sample(), numberedItems(l...))
	checkAll(t, enact.Empty(), numberedItems(l...))
	orders := numberedItems(valid()[api.Commence:]...)
	if got, failures := checkAll(t, sample(), orders); !unit.Equal(got, sample()) || len(failures) != 0 {
		t.Error(failures)
	}
}

// TestFailures looks at the act, the index and the error of each.
func TestFailures(t *testing.T) {
	var l []api.EnactedItem
	var want []api.Failure
	for i, at := range []struct{ act, item int }{{1, 0}, {1, 31}, {1048576, 5}, {0, 0}, {-4, -9}, {math.MaxInt, math.MinInt}} {
		d := do([]string{"repeal section 77", "repeal section 1", "repeal all"}[i%3])
		d.Act, d.Item, d.Day = at.act, at.item, -i
		l = append(l, d)
		want = append(want, api.Failure{Act: at.act, Item: at.item, Why: []api.Errno{api.ErrNoTarget, api.ErrAmbiguous, api.ErrKind}[i%3]})
	}
	if _, failures := checkAll(t, sample(), l); !slices.Equal(failures, want) {
		t.Error(failures)
	}
}

func TestApplyAct(t *testing.T) {
	for _, number := range []int{6, 0, -1, math.MaxInt} {
		a := api.Act{Number: number, Title: "Fish Act", Day: 40, Start: api.Start{Kind: api.OnOrder}, Items: dependent()}
		var l []api.EnactedItem
		for i, it := range a.Items {
			l = append(l, api.EnactedItem{Act: number, Item: i, Day: 40, It: it})
		}
		want, failures := checkAll(t, enact.Empty(), l)
		got, f := enact.ApplyAct(enact.Empty(), a)
		if !unit.Equal(got, want) || !slices.Equal(f, failures) {
			t.Error(number, f)
		}
		if !slices.Equal(f, []api.Failure{{Act: number, Item: 3, Why: api.ErrMissing}, {Act: number, Item: 7, Why: api.ErrNoTarget}, {Act: number, Item: 9, Why: api.ErrArg}, {Act: number, Item: 16, Why: api.ErrNoTarget}}) {
			t.Error(number, f)
		}
		if id := got.Kids[0].Id; id != (api.Id{Act: number, Item: 11, N: 1}) {
			t.Error(id)
		}
	}
}

// TestForAndStart expects that neither matters.
func TestForAndStart(t *testing.T) {
	u := sample()
	for _, it := range valid()[:api.Move+1] {
		want, _ := amended(u, by(act, 0, it))
		for _, purpose := range []string{"", "tax", "a"} {
			for _, start := range []api.Start{{}, {Kind: api.OnDay}, {Kind: api.OnDay, Day: 1 << 20}, {Kind: api.OnOrder}, {Kind: api.OnEvent, Event: "union"}} {
				it.For, it.Start = purpose, start
				expect(t, u, by(act, 0, it), api.OK)
				got, failures := enact.ApplyAct(u, api.Act{Number: act, Start: start, Items: []api.Item{it}})
				if !unit.Equal(got, want) || len(failures) != 0 {
					t.Error(it.Kind, purpose, start, failures)
				}
			}
		}
	}
}

// TestManyItems gives ApplyAct more items than an act can have.
func TestManyItems(t *testing.T) {
	var l []api.Item
	for i := range 200 {
		l = append(l, insertion("into all last", fmt.Sprint("section ", i%100+1)).It)
	}
	u, failures := enact.ApplyAct(enact.Empty(), api.Act{Number: 1, Items: l})
	if len(u.Kids) != 64 || len(failures) != 136 || failures[0] != (api.Failure{Act: 1, Item: 64, Why: api.ErrFull}) || failures[36] != (api.Failure{Act: 1, Item: 100, Why: api.ErrDuplicateLabel}) || failures[135] != (api.Failure{Act: 1, Item: 199, Why: api.ErrFull}) {
		t.Error(len(u.Kids), len(failures))
	}
}

// P23.3: Affected

func TestAffected(t *testing.T) {
	u := sample()
	ids := func(l ...int) []api.Id {
		var out []api.Id
		for _, n := range l {
			out = append(out, number(n))
		}
		return out
	}
	fresh := func(n int) []api.Id {
		var out []api.Id
		for i := range n {
			out = append(out, api.Id{Act: act, Item: item, N: i + 1})
		}
		return out
	}
	for i, c := range []struct {
		d    api.EnactedItem
		want []api.Id
	}{
		{insertion("into section 3 first", "paragraph 9"), fresh(1)}, {insertion("behind section 3", "section 9", "  paragraph 1", "    note 1", "  paragraph 2"), fresh(4)},
		{insertion("into section 3 first", "paragraph 3"), nil}, {insertion("into section 3 first", "row 3"), nil},
		{do("repeal section 3"), ids(14, 15, 16, 17, 18)}, {do("repeal table 1"), ids(9, 10, 11, 12, 13)}, {do("repeal part 2"), ids(19)}, {do("repeal section 1"), nil}, {do("repeal all"), nil},
		{do(`in section 3 for "a" put "c" each`), ids(14)}, {do(`in section 3 for "z" put "c" each`), nil}, {do(`in section 3 for "a" put "a" each`), ids(14)},
		{do(`in part 1 behind "b" put "c" each`), ids(1)}, {do(`in part 1 ahead of all put "c"`), ids(1)}, {do(`in part 1 behind "z" put "c" each`), nil},
		{do(`head section 3 as ""`), ids(14)}, {do(`head section 3 as "h h"`), ids(14)}, {do(`head section 4 as "x"`), nil},
		{do("number section 3 as 4"), ids(14)}, {do("number section 3 as 3"), nil},
		{do("move section 3 into part 1 last"), ids(14)}, {do("move section 3 behind section 3"), ids(14)}, {do("move section 3 into section 3 last"), nil}, {do("move part 1 into all last"), ids(1)},
		{do("commence act 3 from day 5"), nil}, {do("expire act 3 from day 5"), nil}, {do("revive act 3 from day 5"), nil}, {do("happen union on day 5"), nil}, {do("correct act 3 item 1 as repeal section 3"), nil},
		{by(act, item, api.Item{Kind: -1}), nil}, {by(act, item, api.Item{Kind: 12}), nil}, {by(act, item, api.Item{Kind: api.Repeal, At: parsed("repeal section 3").At, Nth: 1}), nil},
	} {
		if got := enact.Affected(u, c.d); !slices.Equal(got, c.want) {
			t.Error(i, about(c.d), got)
		}
		check(t, u, c.d)
	}
}

// P23.4: the consequences

// randomLabel returns one of few labels.
func randomLabel(r *rand.Rand) string { return fmt.Sprint(1 + r.Intn(4)) }

// randomTexts returns up to n words of few.
func randomTexts(r *rand.Rand, n int) []string {
	var l []string
	for range r.Intn(n + 1) {
		l = append(l, []string{"a", "b", "c"}[r.Intn(3)])
	}
	return l
}

// randomUnit returns a bare tree of a kind.
func randomUnit(r *rand.Rand, kind, depth int) api.Unit {
	words := func() []api.Word {
		var l []api.Word
		for _, s := range randomTexts(r, 4) {
			l = append(l, api.Word{Text: s})
		}
		return l
	}
	u := api.Unit{Kind: kind, Label: randomLabel(r), Head: words(), Words: words()}
	if depth == 0 {
		return u
	}
	for range r.Intn(4) {
		kid := randomUnit(r, 1+r.Intn(7), depth-1)
		fits := unit.CanContain(kind, kid.Kind) && !slices.ContainsFunc(u.Kids, func(x api.Unit) bool { return x.Kind == kid.Kind && x.Label == kid.Label })
		if fits {
			u.Kids = append(u.Kids, kid)
		}
	}
	return u
}

// randomItem returns an amendment about the tree, which often has an effect.
func randomItem(r *rand.Rand, u api.Unit) api.Item {
	l := addresses(u)
	it := api.Item{Kind: r.Intn(7), At: l[r.Intn(len(l))]}
	switch it.Kind {
	case api.Insert:
		it.Where = r.Intn(4)
		it.Unit = randomUnit(r, 1+r.Intn(7), 2)
		if x := only(matched(&u, it.At)); x != nil {
			for range 20 {
				if p, _ := point(x, it.Where); p != nil && !unit.CanContain(p.u.Kind, it.Unit.Kind) {
					it.Unit = randomUnit(r, 1+r.Intn(7), 2)
				}
			}
		}
	case api.ReplaceWords:
		it.Old, it.New, it.Nth = append(randomTexts(r, 1), "a"), randomTexts(r, 3), r.Intn(3)
	case api.InsertWords:
		it.Old, it.New = randomTexts(r, 2), append(randomTexts(r, 2), "b")
		if len(it.Old) > 0 {
			it.Nth = r.Intn(3)
		}
	case api.Heading:
		it.New = randomTexts(r, 3)
	case api.Relabel:
		it.Label = randomLabel(r)
	case api.Move:
		it.To, it.Where = l[r.Intn(len(l))], r.Intn(4)
	}
	return it
}

// distinct expects that no two units have the same ID, and no two words the same mark.
func distinct(t *testing.T, u api.Unit) {
	t.Helper()
	ids, marks := map[api.Id]bool{}, map[api.Mark]bool{}
	for _, x := range places(&u) {
		if ids[x.u.Id] {
			t.Fatal("twice", x.u.Id)
		}
		ids[x.u.Id] = true
		for _, w := range slices.Concat(x.u.Head, x.u.Words) {
			if marks[w.By] {
				t.Fatal("twice", w.By)
			}
			marks[w.By] = true
		}
	}
}

// TestBuiltBooks builds books from the empty one by items of random kinds, whose acts and items are all different, and compares every step with the model.
func TestBuiltBooks(t *testing.T) {
	r := rand.New(rand.NewSource(23))
	effects := map[int]int{}
	for range 400 {
		u := enact.Empty()
		var l []api.EnactedItem
		for n := range 100 {
			it := randomItem(r, u)
			if len(places(&u)) > 60 && it.Kind == api.Insert {
				it = api.Item{Kind: api.Repeal, At: it.At}
			}
			d := by(n/10, n%10, it)
			l = append(l, d)
			if len(check(t, u, d)) == 0 {
				effects[it.Kind]++
			}
			u, _ = enact.Apply(u, d)
			distinct(t, u)
		}
		checkAtOnce(t, u, l)
	}
	for kind := api.Insert; kind <= api.Move; kind++ {
		if effects[kind] < 200 {
			t.Error(syntax.KindName(kind), effects[kind])
		}
	}
}

// checkAtOnce expects that the items together, as one list or as ten acts, make the book u of the empty one.
func checkAtOnce(t *testing.T, u api.Unit, l []api.EnactedItem) {
	t.Helper()
	all, failures := checkAll(t, enact.Empty(), l)
	acts := enact.Empty()
	var others []api.Failure
	for n := range 10 {
		a := api.Act{Number: n}
		for _, d := range l[10*n : 10*n+10] {
			a.Items = append(a.Items, d.It)
		}
		var f []api.Failure
		acts, f = enact.ApplyAct(acts, a)
		others = append(others, f...)
	}
	if !unit.Equal(all, u) || !unit.Equal(acts, u) || !slices.Equal(failures, others) {
		t.Fatal(lines(u), lines(all), lines(acts))
	}
}

// TestOtherBranches changes a unit in the middle of a tree of several levels, and expects all others as they were, kids and all.
func TestOtherBranches(t *testing.T) {
	u := sample()
	for _, text := range []string{`in part 1 section 1 for "a" put "z" each`, `in part 1 section 1 ahead of all put "z"`, `head part 1 section 1 as "z"`, "number part 1 section 1 as 9"} {
		got := after(t, u, do(text))
		x, y := &got.Kids[0].Kids[0], u.Kids[0].Kids[0]
		if x.Id != number(2) || unit.Equal(*x, y) || !slices.EqualFunc(x.Kids, y.Kids, unit.Equal) {
			t.Error(text, x)
		}
		*x = y
		if !unit.Equal(got, u) {
			t.Error(text, lines(got))
		}
	}
}
