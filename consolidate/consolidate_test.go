package consolidate_test

import (
	"fmt"
	"slices"
	"strings"
	"testing"

	"pandect/api"
	"pandect/consolidate"
	"pandect/enact"
)

// The examples of the document

// TestExample is the example of chapter 30.
func TestExample(t *testing.T) {
	l := gazettes(enacted(1, 5, "from day 10", insertion("into all last", "section 1 | a")), enacted(2, 6, "from day 20", "repeal section 1"))
	for day, want := range map[int]string{0: "", 9: "", 10: "section 1 | a", 15: "section 1 | a", 19: "section 1 | a", 20: "", 21: "", api.MaxDay: ""} {
		expectBook(t, day, "", want, l...)
		expectFailures(t, day, "", "", l...)
	}
	late := gazettes(enacted(1, 5, "from day 20", insertion("into all last", "section 1 | a")), enacted(2, 6, "from day 10", "repeal section 1"))
	expectFailures(t, 9, "", "", late...)
	expectFailures(t, 10, "", fmt.Sprint("2.0 ", int(api.ErrNoTarget)), late...) // the insertion is not in force yet
	expectFailures(t, 20, "", "", late...)
	checkAll(t, l)
	checkAll(t, late)
}

// TestFirstExamples is the first two examples of DOC.md.
func TestFirstExamples(t *testing.T) {
	one, two, three := enacted(1, 5, "from day 10", insertion("into all last", "section 1 | a b")), enacted(2, 6, "from day 20", `in section 1 for "b" put "c" each`), enacted(3, 7, "by order", "expire act 2 from day 30")
	l := gazettes(one, two, three)
	for day, want := range map[int]string{9: "", 10: "section 1 | a b", 19: "section 1 | a b", 20: "section 1 | a c", 25: "section 1 | a c", 29: "section 1 | a c", 30: "section 1 | a b", 40: "section 1 | a b"} {
		expectBook(t, day, "", want, l...)
		if day < 30 {
			expectBook(t, day, "", want, l[:2]...)
		}
	}
	book := consolidate.Book(20, "", l...)
	if got := book.Kids[0].Words; !slices.Equal(got, []api.Word{{Text: "a", By: api.Mark{Act: 1}}, {Text: "c", By: api.Mark{Act: 2}}}) {
		t.Error(got)
	}
	if got := book.Kids[0].Id; got != (api.Id{Act: 1, N: 1}) || book.Id != (api.Id{}) || book.Kind != api.Book {
		t.Error(got)
	}
	if got := consolidate.Book(30, "", l...).Kids[0].Words[1]; got != (api.Word{Text: "b", By: api.Mark{Act: 1, At: 1}}) {
		t.Error(got)
	}
	checkAll(t, l)
}

// TestLaterExamples is the third and the fifth example of DOC.md.
func TestLaterExamples(t *testing.T) {
	one, four := enacted(1, 5, "from day 10", insertion("into all last", "section 1 | a")), enacted(4, 5, "from day 10", "number section 1 as 2", insertion("into all first", "section 1 | b"))
	expectBook(t, 10, "", "section 1 | b / section 2 | a", gazettes(one, four)...)
	expectBook(t, 10, "", "section 1 | b / section 2 | a", gazettes(four, one)...)
	five := enacted(5, 8, "from day 10", "repeal section 9", insertion("into all last", "part 1", "  section 1 | c"), "repeal section 1", "repeal section 2")
	expectBook(t, 10, "", "section 1 | b / part 1 /   section 1 | c", gazettes(one, four, five)...)
	expectFailures(t, 10, "", fmt.Sprintf("5.0 %d, 5.2 %d", api.ErrNoTarget, api.ErrAmbiguous), gazettes(five, four, one)...)
}

// P30.1: Book

func TestDays(t *testing.T) {
	l := gazettes(enacted(1, 5, "from day 0", insertion("into all last", "section 1 | a"), "repeal section 9", `head section 1 as "h" from day 1048576`))
	missing := fmt.Sprint("1.1 ", int(api.ErrNoTarget))
	for day, want := range map[int]string{0: "section 1 | a", 1: "section 1 | a", 500: "section 1 | a", api.MaxDay - 1: "section 1 | a", api.MaxDay: "section 1: h | a"} {
		expectBook(t, day, "", want, l...)
		expectFailures(t, day, "", missing, l...)
	}
	for _, day := range []int{-1 << 63, -2, -1, api.Forever, api.Forever + 1, 1<<63 - 1} {
		for _, purpose := range []string{"", "tax"} {
			expectBook(t, day, purpose, "", l...)
			expectFailures(t, day, purpose, "", l...)
			if !same(consolidate.Book(day, purpose, l...), enact.Empty()) {
				t.Error(day, "the book is not empty")
			}
		}
	}
}

func TestNothing(t *testing.T) {
	for _, l := range [][]api.Gazette{nil, {}, {gazette(), {}, gazette()}, gazettes(enacted(1, 5, "from day 10")), gazettes(enacted(1, 5, "from day 10", "happen peace on day 9", "revive act 1 from day 3", "correct act 1 item 0 as repeal section 1"))} {
		for _, day := range []int{-1, 0, 9, 10, api.MaxDay, api.Forever} {
			expectBook(t, day, "", "", l...)
			expectFailures(t, day, "tax", "", l...)
			if !same(consolidate.Book(day, "tax", l...), enact.Empty()) {
				t.Error(day, "the book is not empty")
			}
		}
	}
	never := gazettes(enacted(1, 5, "by order", insertion("into all last", "section 1 | a"), "repeal section 9")) // in force on no day
	for _, day := range []int{0, 5, api.MaxDay} {
		expectBook(t, day, "", "", never...)
		expectFailures(t, day, "", "", never...)
	}
}

func TestPurposes(t *testing.T) {
	l := gazettes(enacted(1, 5, "from day 10", insertion("into all last", "section 1 | a b"), `in section 1 for "b" put "c" each read for tax`, `in section 1 for "b" put "d" each read for trade`, `in section 1 for "c" put "e" each from day 20`))
	missing := fmt.Sprint("1.3 ", int(api.ErrMissing))
	for _, c := range []struct {
		day                        int
		purpose, want, wantFailure string
	}{
		{9, "", "", ""}, {9, "tax", "", ""}, {10, "", "section 1 | a b", ""}, {10, "tax", "section 1 | a c", ""}, {10, "trade", "section 1 | a d", ""}, {10, "war", "section 1 | a b", ""}, {10, "ta", "section 1 | a b", ""}, {10, "Tax", "section 1 | a b", ""},
		{20, "", "section 1 | a b", missing}, {20, "tax", "section 1 | a e", ""}, {20, "trade", "section 1 | a d", missing}, {20, "war", "section 1 | a b", missing},
	} {
		expectBook(t, c.day, c.purpose, c.want, l...)
		expectFailures(t, c.day, c.purpose, c.wantFailure, l...)
	}
	checkAll(t, l)
}

// TestLegalOrder publishes acts in another order than that of their days and numbers.
func TestLegalOrder(t *testing.T) {
	put := func(s string) string { return `in section 1 ahead of all put "` + s + `"` }
	one, nine, ten, two := enacted(8, 3, "from day 10", insertion("into all last", "section 1")), enacted(9, 5, "from day 9", put("nine"), put("nine-b")), enacted(10, 5, "from day 8", put("ten")), enacted(2, 6, "from day 7", put("two"), put("two-b"))
	for _, l := range [][]api.Act{{one, nine, ten, two}, {two, ten, nine, one}, {ten, two, one, nine}, {nine, two, ten, one, two}} {
		expectBook(t, 10, "", "section 1 | two-b two ten nine-b nine", gazettes(l...)...)
		expectBook(t, 10, "", "section 1 | two-b two ten nine-b nine", gazette(l...))
		checkAll(t, gazettes(l...))
	}
	expectFailures(t, 9, "", "9.0 7, 9.1 7, 10.0 7, 2.0 7, 2.1 7", gazettes(two, ten, nine, one)...)
	expectFailures(t, 8, "", "10.0 7, 2.0 7, 2.1 7", gazettes(two, ten, nine, one)...)
}

// TestCorrected expects the book by the correction, also for days before it is published.
func TestCorrected(t *testing.T) {
	l := gazettes(enacted(1, 5, "from day 10", insertion("into all last", "section 1 | a")), enacted(2, 50, "by order", "correct act 1 item 0 as "+insertion("into all last", "section 1 | b")))
	expectBook(t, 10, "", "section 1 | a", l[:1]...)
	expectBook(t, 10, "", "section 1 | b", l...)
	if got := consolidate.Book(10, "", l...).Kids[0]; got.Id != (api.Id{Act: 1, N: 1}) || got.Words[0].By != (api.Mark{Act: 1}) {
		t.Error(got)
	}
}

// P30.1: Failures

// reason is a reason for which amendments fail: which follow after the insertion of section 1, and the indices of those that fail.
type reason struct {
	errno api.Errno
	texts []string
	fails []int
}

// reasons returns the reasons for which a valid amendment can fail. ErrExists is not among them: no two enacted items have the same act and index, so that no new ID can be in the book already.
func reasons() []reason {
	var kids, deep []string
	for i := range 64 {
		kids = append(kids, fmt.Sprint("  paragraph ", i+1))
	}
	for i := range 7 {
		deep = append(deep, strings.Repeat("  ", i)+"paragraph 1")
	}
	full := insertion("into all last", append([]string{"section 7 | " + strings.Repeat("a ", 255) + "a"}, kids...)...)
	deeper := insertion("into section 1 paragraph 1 first", append([]string{"paragraph 2"}, deep[1:]...)...)
	return []reason{
		{api.ErrNoTarget, []string{"repeal section 9", `in section 9 ahead of all put "x"`, `head paragraph 1 as "x"`, "move section 1 into section 9 first", "number part 1 as 2"}, []int{1, 2, 3, 4, 5}},
		{api.ErrAmbiguous, []string{insertion("into all last", "part 1", "  section 1"), "repeal section 1", "move part 1 behind section 1"}, []int{2, 3}},
		{api.ErrKind, []string{"repeal all", `head all as "x"`, "move section 1 into section 1 first", insertion("behind all", "section 2"), insertion("into section 1 first", "section 2")}, []int{1, 2, 3, 4, 5}},
		{api.ErrMissing, []string{`in section 1 for "z" put "x" each`, `in section 1 behind "a" put "x" at 4`}, []int{1, 2}},
		{api.ErrDuplicateLabel, []string{insertion("into all last", "section 1"), "number section 1 as 1"}, []int{1, 2}},
		{api.ErrFull, []string{full, insertion("into section 7 last", "paragraph 65"), `in section 7 for "a" put "b c" at 1`, insertion("into section 1 first", deep...), deeper}, []int{2, 3, 5}},
	}
}

// TestReasons expects each reason.
func TestReasons(t *testing.T) {
	for _, r := range reasons() {
		l := gazettes(enacted(1, 5, "from day 10", append([]string{insertion("into all last", "section 1 | a")}, r.texts...)...))
		var want []api.Failure
		for _, i := range r.fails {
			want = append(want, api.Failure{Act: 1, Item: i, Why: r.errno})
		}
		if got := consolidate.Failures(10, "", l...); !slices.Equal(got, want) {
			t.Error(got, want)
		}
		for i := range r.texts {
			if got := consolidate.HasEffect(10, "", api.ItemRef{Act: 1, Item: i + 1}, l...); got == slices.Contains(r.fails, i+1) {
				t.Error(r.errno, i, got)
			}
		}
		check(t, 10, "", l)
	}
}

// TestInvalidItems expects ErrArg for instructions that are not valid.
func TestInvalidItems(t *testing.T) {
	for _, spoil := range []func(it *api.Item){
		func(it *api.Item) { it.Nth = -1 }, func(it *api.Item) { it.Label = "x" }, func(it *api.Item) { it.For = "Tax" }, func(it *api.Item) { it.At[0].Label = "" }, func(it *api.Item) { it.Day = 9 }, func(it *api.Item) { it.By = []api.Item{{}} },
	} {
		a := enacted(1, 5, "from day 10", insertion("into all last", "section 1 | a"), "repeal section 1", `head section 1 as "h"`)
		spoil(&a.Items[1])
		l := gazettes(a)
		expectBook(t, 10, "Tax", "section 1: h | a", l...)
		expectFailures(t, 10, "Tax", fmt.Sprint("1.1 ", int(api.ErrArg)), l...)
	}
}

// TestPlacesOfFailures puts items without effect at the first, a middle and the last place.
func TestPlacesOfFailures(t *testing.T) {
	one, head, bad := insertion("into all last", "section 1 | a"), `head section 1 as "h"`, "repeal section 9"
	for _, c := range []struct {
		texts    []string
		book     string
		failures string
	}{
		{[]string{one, head}, "section 1: h | a", ""},
		{[]string{bad, one, head}, "section 1: h | a", "1.0 7"}, {[]string{one, bad, head}, "section 1: h | a", "1.1 7"}, {[]string{one, head, bad}, "section 1: h | a", "1.2 7"},
		{[]string{bad, one, bad, bad, head, bad}, "section 1: h | a", "1.0 7, 1.2 7, 1.3 7, 1.5 7"},
		{[]string{bad, bad, bad}, "", "1.0 7, 1.1 7, 1.2 7"}, {[]string{bad}, "", "1.0 7"}, {[]string{head, one}, "section 1 | a", "1.0 7"},
		{[]string{"happen peace on day 3", bad, one, "expire act 9 from day 3", head, bad}, "section 1: h | a", "1.1 7, 1.5 7"}, // orders are no failures
	} {
		l := gazettes(enacted(1, 5, "from day 10", c.texts...))
		expectBook(t, 10, "", c.book, l...)
		expectFailures(t, 10, "", c.failures, l...)
		expectFailures(t, 9, "", "", l...)
		checkAll(t, l)
		var acts []api.Act // each item in an act of its own, published in the opposite order
		for i, text := range c.texts {
			acts = append([]api.Act{enacted(i+1, 5, "from day 10", text)}, acts...)
		}
		expectBook(t, 10, "", c.book, gazettes(acts...)...)
		if got := consolidate.Failures(10, "", gazettes(acts...)...); len(got) != strings.Count(c.failures, ".") {
			t.Error(c, got)
		}
		checkAll(t, gazettes(acts...))
	}
}

// P30.2: Through and Before

// sections returns gazettes with three acts, of which the first and the third insert sections, one of them for tax, and all are enacted on other days than their order in the gazettes and their numbers tell. Act 6 has the day of act 4; act 8 has no items.
func sections() []api.Gazette {
	section := func(n int, suffix string) string {
		return insertion("into all last", fmt.Sprint("section ", n)) + suffix
	}
	return gazettes(
		enacted(2, 9, "from day 10", section(5, ""), section(6, "")),
		enacted(6, 5, "by order", "happen peace on day 3", "expire act 4 item 3 from day 40"),
		enacted(4, 5, "from day 10", section(1, ""), section(2, " read for tax"), "happen war on day 3", section(3, ""), section(1, "")),
		enacted(8, 7, "from day 10"),
		enacted(4, 50, "from day 10", section(7, ""), section(8, ""), section(9, "")), // a duplicate
	)
}

func TestThroughAndBefore(t *testing.T) {
	l := sections()
	names := func(labels string) string {
		if labels == "" {
			return ""
		}
		return "section " + strings.Join(strings.Split(labels, ""), " / section ")
	}
	for _, c := range []struct {
		act, item       int
		before, through string // the labels of the sections
	}{
		{4, 0, "", "1"},       // the first item
		{4, 1, "1", "12"},     // a middle one
		{4, 2, "12", "12"},    // no amendment
		{4, 3, "12", "123"},   //
		{4, 4, "123", "123"},  // without effect
		{4, 5, "123", "123"},  // the index is beyond the items
		{4, 99, "123", "123"}, //
		{4, -1, "", ""},       // it is negative
		{4, -99, "", ""},
		{2, 0, "123", "1235"}, {2, 1, "1235", "12356"}, // the last item
		{2, 2, "12356", "12356"}, {2, -1, "123", "123"},
		{6, 0, "123", "123"}, {6, 1, "123", "123"}, {6, -1, "123", "123"}, {6, 2, "123", "123"}, // an act on the day of another one
		{8, 0, "123", "123"}, {8, -5, "123", "123"}, {8, 7, "123", "123"}, // without items
		{1, 0, "", ""}, {3, 0, "", ""}, {5, 0, "", ""}, {7, 0, "", ""}, {9, 0, "", ""}, {0, 0, "", ""}, {-1, 0, "", ""}, {-4, 1, "", ""}, {1 << 40, 0, "", ""}, // acts that do not exist
	} {
		at := api.ItemRef{Act: c.act, Item: c.item}
		if got := text(consolidate.Before(10, "tax", at, l...)); got != names(c.before) {
			t.Error("Before", at, got)
		}
		if got := text(consolidate.Through(10, "tax", at, l...)); got != names(c.through) {
			t.Error("Through", at, got)
		}
		for _, purpose := range []string{"", "trade"} { // without section 2
			x, y := text(consolidate.Before(10, purpose, at, l...)), text(consolidate.Through(10, purpose, at, l...))
			if x != names(strings.ReplaceAll(c.before, "2", "")) || y != names(strings.ReplaceAll(c.through, "2", "")) {
				t.Error(purpose, at, x, y)
			}
		}
		x, y := text(consolidate.Before(40, "tax", at, l...)), text(consolidate.Through(40, "tax", at, l...)) // without section 3
		if x != names(strings.ReplaceAll(c.before, "3", "")) || y != names(strings.ReplaceAll(c.through, "3", "")) {
			t.Error(at, x, y)
		}
		for _, day := range []int{-1, 0, 9, api.Forever} {
			if x, y := consolidate.Before(day, "tax", at, l...), consolidate.Through(day, "tax", at, l...); !same(x, enact.Empty()) || !same(y, enact.Empty()) {
				t.Error(day, at, text(x), text(y))
			}
		}
	}
	checkAll(t, l)
}

// TestDaysOfActs expects that the day of enactment of the act that counts places a reference, also one to an act that has no item in force.
func TestDaysOfActs(t *testing.T) {
	one, three := enacted(1, 5, "from day 10", insertion("into all last", "section 1")), enacted(3, 7, "from day 10", insertion("into all last", "section 3"))
	for _, c := range []struct {
		number, day int
		want        string
	}{
		{2, 4, ""}, {2, 5, "section 1"}, {2, 6, "section 1"}, {2, 7, "section 1"}, {2, 8, "section 1 / section 3"}, {0, 5, ""}, {0, 7, "section 1"}, {9, 5, "section 1"}, {9, 6, "section 1"}, {9, 7, "section 1 / section 3"}, {9, 4, ""}, {10, 7, "section 1 / section 3"}, {-1, 5, ""}, {-1, 6, "section 1"},
	} {
		empty := api.Act{Number: c.number, Day: c.day}
		for _, l := range [][]api.Gazette{gazettes(one, three, empty), gazettes(empty, three, one), gazettes(one, empty, three, api.Act{Number: c.number, Day: 6 - c.day})} {
			for _, item := range []int{-1, 0, 5} {
				at := api.ItemRef{Act: c.number, Item: item}
				x, y := text(consolidate.Before(10, "", at, l...)), text(consolidate.Through(10, "", at, l...))
				if x != c.want || y != c.want {
					t.Error(c, x, y)
				}
			}
			check(t, 10, "", l)
		}
	}
}

// TestThroughFailures expects that items without effect change no book.
func TestThroughFailures(t *testing.T) {
	l := gazettes(enacted(1, 5, "from day 10", "repeal section 1", insertion("into all last", "section 1 | a b"), "repeal section 9", `in section 1 for "a" put "c" each`))
	for i, want := range []string{"", "section 1 | a b", "section 1 | a b", "section 1 | c b"} {
		at := api.ItemRef{Act: 1, Item: i}
		if got := text(consolidate.Through(10, "", at, l...)); got != want {
			t.Error(i, got)
		}
		if got := consolidate.HasEffect(10, "", at, l...); got != (i%2 == 1) {
			t.Error(i, got)
		}
	}
	checkAll(t, l)
}

// P30.2: HasEffect

func TestHasEffect(t *testing.T) {
	l := sections()
	for _, c := range []struct {
		act, item             int
		none, tax, trade, end bool // on day 10, and for tax on day 40
	}{
		{4, 0, true, true, true, true}, {4, 1, false, true, false, true}, {4, 3, true, true, true, false}, {2, 0, true, true, true, true}, {2, 1, true, true, true, true},
		{4, 4, false, false, false, false},                                                                         // without effect
		{4, 2, false, false, false, false}, {6, 0, false, false, false, false}, {6, 1, false, false, false, false}, // no amendments
		{4, 5, false, false, false, false}, {4, -1, false, false, false, false}, {8, 0, false, false, false, false}, {1, 0, false, false, false, false}, {-4, 0, false, false, false, false}, {0, 0, false, false, false, false}, // not there
	} {
		at := api.ItemRef{Act: c.act, Item: c.item}
		for i, want := range []bool{c.none, c.tax, c.trade, c.end, false, false, false, false} {
			day, purpose := []int{10, 10, 10, 40, 9, -1, api.Forever, 0}[i], []string{"", "tax", "trade", "tax", "tax", "tax", "tax", "tax"}[i]
			if got := consolidate.HasEffect(day, purpose, at, l...); got != want {
				t.Error(at, day, purpose, got)
			}
		}
	}
	if consolidate.HasEffect(10, "", api.ItemRef{}) || consolidate.HasEffect(0, "", api.ItemRef{}, gazette(api.Act{})) {
		t.Error("without items")
	}
	zero := gazettes(api.Act{Start: api.Start{Kind: api.OnDay}, Items: make([]api.Item, 1)}) // item 0 of act 0 is not valid
	if consolidate.HasEffect(0, "", api.ItemRef{}, zero...) {
		t.Error("item 0 of act 0")
	}
}

// TestEffectDependsOnOthers expects an effect where, and only where, the items before it make it possible.
func TestEffectDependsOnOthers(t *testing.T) {
	l := gazettes(
		enacted(1, 5, "from day 10", insertion("into all last", "section 1 | a")),
		enacted(2, 6, "from day 5", `head section 1 as "h"`, "number section 1 as 2 read for tax", "repeal section 1 from day 20", `in section 1 for "a" put "b" each from day 6`, `in section 2 for "a" put "b" each from day 6`),
	)
	for _, c := range []struct {
		day     int
		purpose string
		want    [5]bool
	}{
		{4, "", [5]bool{}}, {5, "", [5]bool{}}, {9, "tax", [5]bool{}}, {10, "", [5]bool{true, false, false, true, false}}, {10, "tax", [5]bool{true, true, false, false, true}},
		{20, "", [5]bool{true, false, true, false, false}}, {20, "tax", [5]bool{true, true, false, false, true}},
	} {
		for i, want := range c.want {
			if got := consolidate.HasEffect(c.day, c.purpose, api.ItemRef{Act: 2, Item: i}, l...); got != want {
				t.Error(c.day, c.purpose, i, got)
			}
		}
	}
	checkAll(t, l)
}
