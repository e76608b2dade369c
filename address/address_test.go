package address_test

import (
	"fmt"
	"math"
	"math/rand"
	"regexp"
	"slices"
	"strings"
	"testing"

	"pandect/address"
	"pandect/api"
	"pandect/unit"
)

// names are the names of the kinds.
var names = []string{"book", "part", "section", "paragraph", "table", "row", "cell", "note"}

// someKinds are all kinds, and numbers that are not kinds.
var someKinds = []int{math.MinInt, -1, api.Book, api.Part, api.Section, api.Para, api.Table, api.Row, api.Cell, api.Note, 8, 9, math.MaxInt}

var (
	goodLabels = []string{"1", "9", "12", "12A", "12AB", "10", "9999", "9999ZZZ", "1AAA"}
	badLabels  = []string{"", "0", "01", "0A", "A", "A1", "1a", "12 A", " 12", "12 ", "1ABCD", "10000", "-1", "+1", "1-2", "1\n", "\x00", "1\xff", "section", "١", strings.Repeat("1", 5000)}
)

var (
	labelPattern = regexp.MustCompile(`^[1-9][0-9]{0,3}[A-Z]{0,3}$`)
	textPattern  = regexp.MustCompile(`^(book|(part|section|paragraph|table|row|cell|note) [1-9][0-9]{0,3}[A-Z]{0,3})( (part|section|paragraph|table|row|cell|note) [1-9][0-9]{0,3}[A-Z]{0,3})*$`)
	namePattern  = regexp.MustCompile(`[a-z]+`)
)

func step(kind int, label string) api.Step { return api.Step{Kind: kind, Label: label} }

// steps returns steps made of kinds and labels in turn.
func steps(l ...any) []api.Step {
	var p []api.Step
	for i := 0; i < len(l); i += 2 {
		p = append(p, step(l[i].(int), l[i+1].(string)))
	}
	return p
}

// wantValid tells whether the definition accepts the address.
func wantValid(p []api.Step) bool {
	for i, s := range p {
		first := i == 0 && s.Kind == 0 && s.Label == ""
		if !first && (s.Kind < 1 || s.Kind > 7 || !labelPattern.MatchString(s.Label)) {
			return false
		}
	}
	return len(p) <= 9
}

// wantText returns the text of an address by the definition.
func wantText(p []api.Step) string {
	if !wantValid(p) {
		return ""
	}
	var l []string
	for _, s := range p {
		l = append(l, strings.TrimSuffix(names[s.Kind]+" "+s.Label, " "))
	}
	return strings.Join(l, " ")
}

// wantForm tells whether an address has the text s.
func wantForm(s string) bool {
	return s == "" || textPattern.MatchString(s) && len(namePattern.FindAllString(s, -1)) <= 9
}

// checkAddress compares Valid, Format and Parse with the definitions.
func checkAddress(t *testing.T, p []api.Step) {
	t.Helper()
	text := wantText(p)
	if address.Valid(p...) != wantValid(p) || address.Format(p...) != text {
		t.Errorf("%v: %v %q", p, address.Valid(p...), address.Format(p...))
	}
	if got, errno := address.Parse(text); wantValid(p) && (errno != api.OK || !slices.Equal(got, p)) {
		t.Errorf("%q: %v %v", text, got, errno)
	}
}

// checkText compares the result of Parse with the definition.
func checkText(t *testing.T, s string) {
	t.Helper()
	p, errno := address.Parse(s)
	if !wantForm(s) {
		if len(p) != 0 || errno != api.ErrForm {
			t.Errorf("%.99q: %v %v", s, p, errno)
		}
		return
	}
	if errno != api.OK || !wantValid(p) || wantText(p) != s {
		t.Errorf("%q: %v %v", s, p, errno)
	}
}

// P7.1: Valid, Format and Parse

func TestNames(t *testing.T) {
	for _, c := range []struct {
		p    []api.Step
		text string
	}{
		{nil, ""},
		{[]api.Step{}, ""},
		{steps(api.Book, ""), "book"},
		{steps(api.Part, "1"), "part 1"},
		{steps(api.Section, "12A"), "section 12A"},
		{steps(api.Para, "3"), "paragraph 3"},
		{steps(api.Table, "4"), "table 4"},
		{steps(api.Row, "5"), "row 5"},
		{steps(api.Cell, "6"), "cell 6"},
		{steps(api.Note, "9999ZZZ"), "note 9999ZZZ"},
		{steps(api.Section, "5", api.Para, "2"), "section 5 paragraph 2"},
		{steps(api.Book, "", api.Section, "5", api.Para, "2"), "book section 5 paragraph 2"},
		{steps(api.Cell, "1", api.Part, "1", api.Cell, "1"), "cell 1 part 1 cell 1"}, // nesting does not matter
	} {
		p, errno := address.Parse(c.text)
		if !address.Valid(c.p...) || address.Format(c.p...) != c.text || errno != api.OK || !slices.Equal(p, c.p) {
			t.Errorf("%v: %q %v %v", c.p, address.Format(c.p...), p, errno)
		}
	}
}

func TestKindsAndLabels(t *testing.T) {
	for _, kind := range someKinds {
		for _, label := range slices.Concat(goodLabels, badLabels) {
			s := step(kind, label)
			for _, p := range [][]api.Step{
				{s}, {s, s}, {step(api.Book, ""), s}, {step(api.Part, "1"), s}, {s, step(api.Part, "1")}, {step(api.Part, "1"), s, step(api.Part, "1")}, {step(api.Book, ""), step(api.Row, "2B"), s},
			} {
				checkAddress(t, p)
			}
		}
	}
}

func TestBookStep(t *testing.T) {
	book, section := step(api.Book, ""), step(api.Section, "1")
	for i, c := range []struct {
		p    []api.Step
		want bool
	}{
		{[]api.Step{book}, true}, {[]api.Step{book, section}, true}, {[]api.Step{section, book}, false}, {[]api.Step{book, book}, false}, {[]api.Step{book, section, book}, false}, {[]api.Step{step(api.Book, "1")}, false}, {[]api.Step{step(api.Book, "1"), section}, false}, {[]api.Step{section, step(api.Book, "1")}, false},
	} {
		if address.Valid(c.p...) != c.want || (address.Format(c.p...) != "") != c.want {
			t.Error(i)
		}
		checkAddress(t, c.p)
	}
}

func TestNumberOfSteps(t *testing.T) {
	for n := range 30 {
		for _, first := range [][]api.Step{nil, {step(api.Book, "")}} {
			p := slices.Concat(first, slices.Repeat(steps(api.Para, "1"), n))
			want := len(p) <= 9
			text := strings.TrimPrefix(strings.Repeat(" paragraph 1", n), " ")
			if first != nil {
				text = strings.TrimSuffix("book "+text, " ")
			}
			parsed, errno := address.Parse(text)
			if address.Valid(p...) != want || (errno == api.OK) != want || want != slices.Equal(parsed, p) || address.Format(p...) == text != want {
				t.Error(n, first, address.Valid(p...), parsed, errno)
			}
			checkText(t, text)
			if errno != api.OK && (errno != api.ErrForm || len(parsed) != 0) {
				t.Error(n, parsed, errno)
			}
		}
	}
}

// TestAllShortAddresses goes through all addresses of up to three of many steps.
func TestAllShortAddresses(t *testing.T) {
	var pool []api.Step
	for kind := -1; kind <= 8; kind++ {
		for _, label := range []string{"", "1", "12AB", "0"} {
			pool = append(pool, step(kind, label))
		}
	}
	for _, a := range pool {
		checkAddress(t, []api.Step{a})
		for _, b := range pool {
			checkAddress(t, []api.Step{a, b})
			for _, c := range pool {
				checkAddress(t, []api.Step{a, b, c})
			}
		}
	}
}

func TestParseBadTexts(t *testing.T) {
	for _, s := range []string{
		" ", "  ", "book ", " book", "book  section 1", " section 1", "section 1 ", "section  1", "section 1  paragraph 2", "section1", "section 1paragraph 2", "section\t1", "section 1\n", "\nsection 1", "section 1\nparagraph 2", "section\u00a01", "section\u20031",
		"section", "section 1 paragraph", "1", "1 section", "section 1 2", "section 1 paragraph 2 3", "section paragraph 2", "section section 1",
		"book 1", "book book", "section 1 book", "book section 1 book", "book section", "books", "Book", "BOOK", "Section 1", "sections 1", "sec 1", "para 1", "chapter 1", "unit 1", "all", "x", "section 1, paragraph 2", "section 5A.", "section 1/paragraph 2",
		"section 0", "section 01", "section 10000", "section 1a", "section 1ABCD", "section A", "section -1", "section +1", "section 1-2", "\x00", "section 1\x00", "section \xff", "\xff 1", strings.Repeat("book ", 5000), strings.Repeat(" ", 100000), strings.Repeat("section 1 ", 10000), strings.Repeat("1", 100000),
	} {
		if p, errno := address.Parse(s); len(p) != 0 || errno != api.ErrForm {
			t.Errorf("%.99q: %v %v", s, p, errno)
		}
		checkText(t, s)
	}
}

// TestParseChangedTexts changes one byte of texts in every place.
func TestParseChangedTexts(t *testing.T) {
	for _, s := range []string{"", "book", "section 5 paragraph 2", "book part 12A section 1 note 9999ZZZ", "table 1 row 2 cell 3", "part 1"} {
		checkText(t, s)
		for i := range len(s) + 1 {
			for c := range 256 {
				checkText(t, s[:i]+string([]byte{byte(c)})+s[i:])
				if i < len(s) {
					checkText(t, s[:i]+string([]byte{byte(c)})+s[i+1:])
				}
			}
			if i < len(s) {
				checkText(t, s[:i]+s[i+1:])
				checkText(t, s[i:])
				checkText(t, s[:i])
			}
		}
	}
}

// P7.2 and P7.3: resolution

// at returns the unit with an ID that ends in n.
func at(n int, u api.Unit) api.Unit {
	u.Id = api.Id{Act: 3, Item: 1, N: n}
	return u
}

// number returns the ID that ends in n.
func number(n int) api.Id { return api.Id{Act: 3, Item: 1, N: n} }

// numbers returns the IDs that end in the given numbers.
func numbers(l ...int) []api.Id {
	var out []api.Id
	for _, n := range l {
		out = append(out, number(n))
	}
	return out
}

// bare returns a unit without ID, heading and words.
func bare(kind int, label string, kids ...api.Unit) api.Unit {
	return api.Unit{Kind: kind, Label: label, Kids: kids}
}

// withIDs returns a copy of the tree in which the IDs end in 1, 2, ... in document order; that of a book at the root is zero.
func withIDs(u api.Unit) api.Unit {
	u = copyOf(u)
	for i, x := range nodes(&u) {
		x.Id = number(i)
	}
	if u.Kind == api.Book {
		u.Id = api.Id{}
	}
	return u
}

// copyOf returns a copy that shares nothing with u.
func copyOf(u api.Unit) api.Unit {
	u.Head, u.Words, u.Kids = slices.Clone(u.Head), slices.Clone(u.Words), slices.Clone(u.Kids)
	for i := range u.Kids {
		u.Kids[i] = copyOf(u.Kids[i])
	}
	return u
}

// nodes returns pointers to all units of a tree that shares nothing within itself, in document order.
func nodes(u *api.Unit) []*api.Unit {
	l := []*api.Unit{u}
	for i := range u.Kids {
		l = append(l, nodes(&u.Kids[i])...)
	}
	return l
}

// place is a unit of a tree: the numbers, in document order, of the units from the root down to it, and the steps that match them.
type place struct {
	id    api.Id
	chain []int
	steps []api.Step
}

// places returns all units of a tree in document order.
func places(u api.Unit) []place {
	var out []place
	var add func(u api.Unit, above place)
	add = func(u api.Unit, above place) {
		p := place{u.Id, append(slices.Clone(above.chain), len(out)), append(slices.Clone(above.steps), step(u.Kind, u.Label))}
		out = append(out, p)
		for _, kid := range u.Kids {
			add(kid, p)
		}
	}
	add(u, place{})
	return out
}

// wantMatches returns the places that the address matches. It compares the steps of every unit with the address; the order follows from that of the units which the steps match.
func wantMatches(l []place, p []api.Step) []place {
	if !wantValid(p) {
		return nil
	}
	if len(p) == 0 || p[0] == step(api.Book, "") {
		p = slices.Concat(l[0].steps, p[min(len(p), 1):])
		l = slices.DeleteFunc(slices.Clone(l), func(x place) bool { return len(x.steps) != len(p) })
	}
	var out []place
	for _, x := range l {
		if above := len(x.steps) - len(p); above >= 0 && slices.Equal(x.steps[above:], p) {
			out = append(out, x)
		}
	}
	slices.SortFunc(out, func(a, b place) int {
		return slices.Compare(a.chain[len(a.chain)-len(p):], b.chain[len(b.chain)-len(p):])
	})
	return out
}

// checkFind compares FindAll and FindOne with the definition.
func checkFind(t *testing.T, u api.Unit, l []place, p []api.Step) {
	t.Helper()
	var want []api.Id
	for _, x := range wantMatches(l, p) {
		want = append(want, x.id)
	}
	if got := address.FindAll(u, p...); !slices.Equal(got, want) {
		t.Errorf("%v: %v, want %v", p, got, want)
	}
	wantOne, wantErrno := api.Id{}, api.ErrAmbiguous
	switch len(want) {
	case 0:
		wantErrno = api.ErrNoTarget
	case 1:
		wantOne, wantErrno = want[0], api.OK
	}
	if got, errno := address.FindOne(u, p...); got != wantOne || errno != wantErrno {
		t.Errorf("%v: %v %v, want %v %v", p, got, errno, wantOne, wantErrno)
	}
}

// checkPaths compares Full and Shortest with the definition.
func checkPaths(t *testing.T, u api.Unit, l []place, id api.Id) {
	t.Helper()
	var wantFull, wantShortest []api.Step
	k := slices.IndexFunc(l, func(x place) bool { return x.id == id })
	if k >= 0 {
		wantFull = slices.Concat(steps(api.Book, ""), l[k].steps[1:])
		wantShortest = wantFull
		for n := len(wantFull) - 1; n > 0; n-- { // to the shortest one at last
			suffix := wantFull[len(wantFull)-n:]
			if found := wantMatches(l, suffix); len(found) == 1 && slices.Equal(found[0].chain, l[k].chain) {
				wantShortest = suffix
			}
		}
	}
	if got, ok := address.Full(u, id); ok != (k >= 0) || !slices.Equal(got, wantFull) {
		t.Errorf("%v: %v %v, want %v", id, got, ok, wantFull)
	}
	if got, ok := address.Shortest(u, id); ok != (k >= 0) || !slices.Equal(got, wantShortest) {
		t.Errorf("%v: %v %v, want %v", id, got, ok, wantShortest)
	}
}

// checkTree compares all that concerns one tree with the definitions.
func checkTree(t *testing.T, u api.Unit, r *rand.Rand) {
	t.Helper()
	l := places(u)
	addresses := [][]api.Step{nil, steps(api.Book, ""), steps(api.Book, "1"), steps(-1, "1"), steps(api.Part, "1"), steps(api.Book, "", api.Book, "")}
	for _, x := range l {
		checkPaths(t, u, l, x.id)
		for n := range len(x.steps) + 1 {
			p := slices.Clone(x.steps[n:])
			changed := slices.Clone(p)
			if len(p) > 0 {
				changed[r.Intn(len(p))] = l[r.Intn(len(l))].steps[0]
				changed[r.Intn(len(p))].Label = fmt.Sprint(r.Intn(3))
			}
			addresses = append(addresses, p, changed, slices.Concat(steps(api.Book, ""), p), slices.Concat(steps(api.Book, ""), changed))
		}
	}
	for _, p := range addresses {
		checkFind(t, u, l, p)
	}
	for _, id := range []api.Id{{}, {Act: 3}, {Act: 3, Item: 1, N: 1}, {Act: 3, N: 1}, {Act: -1, Item: math.MinInt, N: math.MaxInt}, number(1000)} {
		checkPaths(t, u, l, id)
	}
}

// sample is the book of the chapter's example, with more: it has 1 part, and a paragraph 1 in several places.
func sample() api.Unit {
	inner := bare(api.Para, "1", bare(api.Para, "2"), bare(api.Note, "1"))
	table := bare(api.Table, "1", bare(api.Row, "1", bare(api.Cell, "1"), bare(api.Cell, "2")), bare(api.Row, "2", bare(api.Cell, "1")))
	return withIDs(bare(api.Book, "", // IDs as below
		bare(api.Section, "5", // 1
			bare(api.Para, "3"),        // 2
			bare(api.Para, "1", inner), // 3; 4, 5 and 6
			table),                     // 7; row 8 with 9 and 10, row 11 with 12
		bare(api.Part, "1", // 13
			bare(api.Section, "6", // 14
				bare(api.Para, "1"),  // 15
				bare(api.Note, "1")), // 16
			bare(api.Section, "5")))) // 17
}

func TestFindSample(t *testing.T) {
	u := sample()
	for i, c := range []struct {
		text string
		want []api.Id
	}{
		{"", []api.Id{{}}}, {"book", []api.Id{{}}},
		{"section 6", numbers(14)}, {"section 5", numbers(1, 17)}, {"book section 5", numbers(1)}, {"part 1 section 5", numbers(17)}, {"book part 1 section 5", numbers(17)}, {"book section 6", nil}, {"part 1 paragraph 1", nil},
		{"paragraph 1", numbers(3, 4, 15)}, {"section 5 paragraph 1", numbers(3)}, {"paragraph 1 paragraph 1", numbers(4)}, {"paragraph 2", numbers(5)}, {"paragraph 1 paragraph 2", numbers(5)}, {"section 5 paragraph 2", nil},
		{"note 1", numbers(6, 16)}, {"paragraph 1 note 1", numbers(6)}, {"section 6 note 1", numbers(16)},
		{"cell 1", numbers(9, 12)}, {"table 1 row 1 cell 2", numbers(10)}, {"row 2 cell 1", numbers(12)}, {"table 1 cell 1", nil}, {"section 7", nil}, {"paragraph 1A", nil}, {"book paragraph 1", nil},
	} {
		p, errno := address.Parse(c.text)
		if got := address.FindAll(u, p...); errno != api.OK || !slices.Equal(got, c.want) {
			t.Error(i, c.text, got)
		}
	}
	checkTree(t, u, rand.New(rand.NewSource(1)))
}

func TestFindOne(t *testing.T) {
	for _, c := range []struct {
		p     []api.Step
		id    api.Id
		errno api.Errno
	}{
		{nil, api.Id{}, api.OK}, {steps(api.Book, ""), api.Id{}, api.OK},
		{steps(api.Section, "6"), number(14), api.OK}, {steps(api.Section, "5"), api.Id{}, api.ErrAmbiguous}, {steps(api.Section, "7"), api.Id{}, api.ErrNoTarget},
		{steps(api.Section, "0"), api.Id{}, api.ErrNoTarget}, {steps(8, "1"), api.Id{}, api.ErrNoTarget}, {steps(api.Section, "6", api.Book, ""), api.Id{}, api.ErrNoTarget}, {steps(api.Section, "5", api.Section, "5"), api.Id{}, api.ErrNoTarget},
	} {
		if id, errno := address.FindOne(sample(), c.p...); id != c.id || errno != c.errno {
			t.Error(c.p, id, errno)
		}
	}
}

// TestFindOrder asks for the order of several matches: it is not that of the document if one match of the first step contains another one.
func TestFindOrder(t *testing.T) {
	u := withIDs(bare(api.Section, "9", // 0
		bare(api.Para, "1", // 1
			bare(api.Para, "1", // 2
				bare(api.Para, "2"),  // 3
				bare(api.Para, "1")), // 4
			bare(api.Para, "2", // 5
				bare(api.Para, "2"))), // 6
		bare(api.Para, "2", // 7
			bare(api.Para, "2")))) // 8
	para := func(l ...string) []api.Step {
		var p []api.Step
		for _, label := range l {
			p = append(p, step(api.Para, label))
		}
		return p
	}
	for i, c := range []struct {
		p    []api.Step
		want []api.Id
	}{
		{para("1"), numbers(1, 2, 4)},
		{para("2"), numbers(3, 5, 6, 7, 8)},
		{para("1", "2"), numbers(5, 3)}, // paragraph 1 that contains the other one comes first
		{para("1", "1"), numbers(2, 4)},
		{para("2", "2"), numbers(6, 8)},
		{para("1", "1", "2"), numbers(3)},
		{slices.Concat(steps(api.Section, "9"), para("2")), numbers(7)},
		{slices.Concat(steps(api.Book, ""), para("1", "2")), numbers(5)},
	} {
		if got := address.FindAll(u, c.p...); !slices.Equal(got, c.want) {
			t.Error(i, got)
		}
	}
	checkTree(t, u, rand.New(rand.NewSource(2)))
}

// TestOtherRoots resolves addresses on trees whose root is not a book.
func TestOtherRoots(t *testing.T) {
	u := at(1, bare(api.Section, "5", at(2, bare(api.Para, "2")), at(3, bare(api.Para, "5"))))
	for i, c := range []struct {
		p    []api.Step
		want []api.Id
	}{
		{nil, numbers(1)}, {steps(api.Book, ""), numbers(1)}, {steps(api.Section, "5"), numbers(1)}, {steps(api.Section, "5", api.Para, "2"), numbers(2)}, {steps(api.Book, "", api.Para, "2"), numbers(2)}, {steps(api.Book, "", api.Section, "5"), nil}, {steps(api.Section, "2"), nil}, {steps(api.Para, "5"), numbers(3)},
	} {
		if got := address.FindAll(u, c.p...); !slices.Equal(got, c.want) {
			t.Error(i, got)
		}
	}
	for i, f := range []func(u api.Unit, id api.Id) ([]api.Step, bool){address.Full, address.Shortest} {
		if p, ok := f(u, number(1)); !ok || !slices.Equal(p, steps(api.Book, "")) {
			t.Error(i, p, ok)
		}
		if p, ok := f(u, api.Id{}); ok || len(p) != 0 {
			t.Error(i, p, ok)
		}
	}
	for _, kind := range someKinds {
		for _, label := range []string{"", "0", "1"} {
			u := at(1, bare(kind, label, at(2, bare(kind, label)), at(3, bare(kind, "1"))))
			checkTree(t, u, rand.New(rand.NewSource(3)))
		}
	}
}

func TestFullAndShortest(t *testing.T) {
	u := sample()
	for _, c := range []struct {
		id             api.Id
		full, shortest string
	}{
		{api.Id{}, "book", "book"},
		{number(1), "book section 5", "book section 5"}, // every suffix is ambiguous
		{number(2), "book section 5 paragraph 3", "paragraph 3"},
		{number(3), "book section 5 paragraph 1", "section 5 paragraph 1"},
		{number(4), "book section 5 paragraph 1 paragraph 1", "paragraph 1 paragraph 1"},
		{number(5), "book section 5 paragraph 1 paragraph 1 paragraph 2", "paragraph 2"},
		{number(10), "book section 5 table 1 row 1 cell 2", "cell 2"},
		{number(12), "book section 5 table 1 row 2 cell 1", "row 2 cell 1"},
		{number(13), "book part 1", "part 1"},
		{number(14), "book part 1 section 6", "section 6"},
		{number(16), "book part 1 section 6 note 1", "section 6 note 1"},
		{number(17), "book part 1 section 5", "part 1 section 5"},
	} {
		full, ok := address.Full(u, c.id)
		shortest, also := address.Shortest(u, c.id)
		if !ok || !also || address.Format(full...) != c.full || address.Format(shortest...) != c.shortest {
			t.Error(c.id, full, ok, shortest, also)
		}
	}
	for _, id := range []api.Id{number(18), number(-1), {N: 1}, {Act: 3, Item: 2, N: 1}, {Act: 2, Item: 1, N: 1}} {
		full, ok := address.Full(u, id)
		shortest, also := address.Shortest(u, id)
		if ok || also || len(full) != 0 || len(shortest) != 0 {
			t.Error(id, full, shortest)
		}
	}
}

func TestChapterExample(t *testing.T) {
	u := withIDs(bare(api.Book, "", bare(api.Section, "5", bare(api.Para, "2")), bare(api.Part, "1", bare(api.Section, "6"))))
	for _, text := range []string{"section 5 paragraph 2", "paragraph 2", "book section 5 paragraph 2"} {
		p, _ := address.Parse(text)
		if id, errno := address.FindOne(u, p...); id != number(2) || errno != api.OK {
			t.Error(text, id, errno)
		}
	}
	full, _ := address.Full(u, number(2))
	shortest, _ := address.Shortest(u, number(2))
	if address.Format(full...) != "book section 5 paragraph 2" || address.Format(shortest...) != "paragraph 2" {
		t.Error(full, shortest)
	}
}

// TestAmbiguousSuffixes looks at units of which no suffix, or only a long one, matches a single unit.
func TestAmbiguousSuffixes(t *testing.T) {
	twin := bare(api.Section, "1", bare(api.Para, "1"))
	u := withIDs(bare(api.Book, "", bare(api.Part, "1", twin), twin, bare(api.Part, "2", twin)))
	for n, want := range map[int]string{2: "part 1 section 1", 3: "part 1 section 1 paragraph 1", 4: "book section 1", 5: "book section 1 paragraph 1", 7: "part 2 section 1", 8: "part 2 section 1 paragraph 1"} {
		if p, ok := address.Shortest(u, number(n)); !ok || address.Format(p...) != want {
			t.Error(n, p, ok)
		}
	}
	// Not even the full address matches only one of two equal siblings.
	u = withIDs(bare(api.Book, "", bare(api.Section, "1", bare(api.Para, "1"), bare(api.Para, "1")), bare(api.Section, "2")))
	for n := 2; n <= 3; n++ {
		if p, ok := address.Shortest(u, number(n)); !ok || address.Format(p...) != "book section 1 paragraph 1" {
			t.Error(n, p, ok)
		}
	}
	// Steps that are not valid match nothing.
	u = withIDs(bare(api.Book, "", bare(api.Section, "1"), bare(api.Section, "", bare(api.Para, "1"), bare(8, "2", bare(api.Note, "0")))))
	for n, want := range map[int][]api.Step{2: steps(api.Book, "", api.Section, ""), 3: steps(api.Para, "1"), 4: steps(api.Book, "", api.Section, "", 8, "2"), 5: steps(api.Book, "", api.Section, "", 8, "2", api.Note, "0")} {
		if p, ok := address.Shortest(u, number(n)); !ok || !slices.Equal(p, want) {
			t.Error(n, p, ok)
		}
	}
}

// TestBooksBelowTheRoot looks at trees, not valid, that contain books: a suffix that begins with one leads down from the root, to another unit.
func TestBooksBelowTheRoot(t *testing.T) {
	inner := at(1, bare(api.Book, "", at(2, bare(api.Section, "1"))))
	u := bare(api.Book, "", inner, at(3, bare(api.Section, "1")))
	full := steps(api.Book, "", api.Book, "", api.Section, "1")
	if p, ok := address.Shortest(u, number(2)); !ok || !slices.Equal(p, full) {
		t.Error(p, ok)
	}
	if p, ok := address.Shortest(u, number(1)); !ok || !slices.Equal(p, full[:2]) {
		t.Error(p, ok)
	}
	if p, ok := address.Shortest(u, number(3)); !ok || !slices.Equal(p, steps(api.Book, "", api.Section, "1")) {
		t.Error(p, ok)
	}
	checkTree(t, u, rand.New(rand.NewSource(4)))
	// The other section has the same ID, which means the first one.
	u.Kids[1].Id = number(2)
	if p, ok := address.Shortest(u, number(2)); !ok || !slices.Equal(p, full) {
		t.Error(p, ok)
	}
	checkTree(t, u, rand.New(rand.NewSource(5)))
}

// TestEqualIDs looks for an ID that several units have.
func TestEqualIDs(t *testing.T) {
	u := bare(api.Book, "", at(1, bare(api.Section, "1", at(2, bare(api.Para, "1")))), at(2, bare(api.Section, "2", at(1, bare(api.Para, "2")))))
	for n, want := range map[int]string{1: "section 1", 2: "paragraph 1"} {
		if p, ok := address.Shortest(u, number(n)); !ok || address.Format(p...) != want {
			t.Error(n, p, ok)
		}
	}
	if p, ok := address.Full(u, number(2)); !ok || address.Format(p...) != "book section 1 paragraph 1" {
		t.Error(p, ok)
	}
	// Both are matches, although they have one ID.
	u = bare(api.Book, "", at(1, bare(api.Section, "1")), at(1, bare(api.Section, "1")))
	if l := address.FindAll(u, steps(api.Section, "1")...); !slices.Equal(l, numbers(1, 1)) {
		t.Error(l)
	}
	if id, errno := address.FindOne(u, steps(api.Section, "1")...); id != (api.Id{}) || errno != api.ErrAmbiguous {
		t.Error(id, errno)
	}
	// The root has the ID of a unit below it.
	u = bare(api.Book, "", bare(api.Section, "1"))
	if p, ok := address.Full(u, api.Id{}); !ok || !slices.Equal(p, steps(api.Book, "")) {
		t.Error(p, ok)
	}
	// A tree in which units share their kids.
	kids := []api.Unit{at(2, bare(api.Para, "1")), at(3, bare(api.Para, "2"))}
	u = bare(api.Book, "", at(1, bare(api.Section, "1", kids...)), at(1, bare(api.Section, "2", kids...)))
	checkTree(t, u, rand.New(rand.NewSource(6)))
}

// randomTree returns a tree that is seldom valid, and in which labels and IDs occur often.
func randomTree(r *rand.Rand, deep int) api.Unit {
	kinds := []int{api.Book, api.Part, api.Section, api.Section, api.Para, api.Para, api.Note, 8, -1}
	labels := []string{"1", "1", "1", "2", "12A", "", "0"}
	u := bare(kinds[r.Intn(len(kinds))], labels[r.Intn(len(labels))])
	if r.Intn(3) == 0 {
		u = bare(api.Para, "1")
	}
	if r.Intn(5) > 0 {
		u.Id = number(r.Intn(12))
	}
	for range r.Intn(4) {
		if deep > 0 {
			u.Kids = append(u.Kids, randomTree(r, deep-1))
		}
	}
	return u
}

func TestResolutionModel(t *testing.T) {
	r := rand.New(rand.NewSource(7))
	for range 1500 {
		checkTree(t, randomTree(r, r.Intn(6)), r)
	}
}

// P7.4

// randomValid returns a valid tree, below a unit of the kind, in which few labels occur.
func randomValid(r *rand.Rand, kind, deep int) api.Unit {
	u := bare(kind, fmt.Sprint(1+r.Intn(2)))
	if kind == api.Book {
		u.Label = ""
	}
	for range r.Intn(5) {
		kid := 1 + r.Intn(7)
		if deep == 0 || !unit.CanContain(kind, kid) {
			continue
		}
		x := randomValid(r, kid, deep-1)
		if !slices.ContainsFunc(u.Kids, func(y api.Unit) bool { return x.Kind == y.Kind && x.Label == y.Label }) {
			u.Kids = append(u.Kids, x)
		}
	}
	return u
}

func TestConsequences(t *testing.T) {
	r := rand.New(rand.NewSource(8))
	trees := []api.Unit{sample(), {}, withIDs(bare(api.Section, "1"))}
	for range 500 {
		trees = append(trees, withIDs(randomValid(r, r.Intn(5), 1+r.Intn(8))))
	}
	for _, u := range trees {
		if u.Kind != api.Book {
			u.Id = number(9999)
		}
		if !unit.Valid(u) {
			t.Fatal(u)
		}
		for _, id := range unit.IDs(u) {
			full, ok := address.Full(u, id)
			shortest, also := address.Shortest(u, id)
			if !ok || !also || len(shortest) > len(full) || len(shortest) == 0 {
				t.Error(id, full, shortest)
			}
			for _, p := range [][]api.Step{full, shortest} {
				found, errno := address.FindOne(u, p...)
				if found != id || errno != api.OK || len(address.FindAll(u, p...)) != 1 {
					t.Error(id, p, found, errno)
				}
				parsed, errno := address.Parse(address.Format(p...))
				if errno != api.OK || !slices.Equal(parsed, p) || !address.Valid(p...) {
					t.Error(id, p, parsed)
				}
			}
		}
	}
}

// P1, and the rules on memory

// TestDeepTree gives a tree with 2^16 levels to every function.
func TestDeepTree(t *testing.T) {
	const levels = 1 << 16
	u := at(levels, bare(api.Para, "2"))
	for n := levels - 1; n > 0; n-- {
		u = at(n, bare(api.Para, "1", u))
	}
	if l := address.FindAll(u, steps(api.Para, "1")...); len(l) != levels-1 || l[0] != number(1) || l[levels-2] != number(levels-1) {
		t.Error(len(l))
	}
	if id, errno := address.FindOne(u, steps(api.Para, "1", api.Para, "2")...); id != number(levels) || errno != api.OK {
		t.Error(id, errno)
	}
	p, ok := address.Full(u, number(levels))
	if !ok || len(p) != levels || p[0] != step(api.Book, "") || p[levels-1] != step(api.Para, "2") || p[1] != step(api.Para, "1") {
		t.Error(len(p), ok)
	}
	if address.Valid(p...) || address.Format(p...) != "" || len(address.FindAll(u, p...)) != 0 {
		t.Error("the address is too long")
	}
	if p, ok := address.Shortest(u, number(levels)); !ok || !slices.Equal(p, steps(api.Para, "2")) {
		t.Error(len(p), ok)
	}
	if p, ok := address.Shortest(u, number(levels-1)); !ok || len(p) != levels-1 {
		t.Error(len(p), ok)
	}
	if p, ok := address.Full(u, number(levels+1)); ok || len(p) != 0 {
		t.Error(len(p), ok)
	}
}

// TestLongSuffix looks at units for which only a suffix of eight to ten steps, or the full address, would do.
func TestLongSuffix(t *testing.T) {
	for n := 6; n < 14; n++ {
		chain := func(first string) api.Unit {
			u := bare(api.Note, "1")
			for range n - 2 {
				u = bare(api.Para, "1", u)
			}
			return bare(api.Para, first, u)
		}
		u := withIDs(bare(api.Book, "", bare(api.Section, "1", chain("2"), chain("3"))))
		p, ok := address.Shortest(u, number(1+n)) // the first note
		want := n                                 // paragraph 2 and the following ones
		if n > 9 {
			want = n + 2 // longer suffixes are not addresses
		}
		if !ok || len(p) != want || n > 9 && p[0] != step(api.Book, "") || n <= 9 && p[0] != step(api.Para, "2") {
			t.Error(n, p, ok)
		}
		checkTree(t, u, rand.New(rand.NewSource(9)))
	}
}

func TestLongArguments(t *testing.T) {
	long := strings.Repeat("9", 1<<20)
	if _, errno := address.Parse("section " + long); errno != api.ErrForm {
		t.Error(errno)
	}
	if _, errno := address.Parse(strings.Repeat("book section 1 ", 1<<16)); errno != api.ErrForm {
		t.Error(errno)
	}
	many := slices.Repeat(steps(api.Section, long), 1<<12)
	if address.Valid(many...) || address.Format(many...) != "" || len(address.FindAll(sample(), many...)) != 0 || address.Valid(many[0]) {
		t.Error("long steps")
	}
}

// TestArgumentsAndResults changes each result, up to its capacity, and looks at the arguments and at another result.
func TestArgumentsAndResults(t *testing.T) {
	u := sample()
	p := append(make([]api.Step, 0, 20), steps(api.Section, "5", api.Para, "1")...)
	for _, q := range [][]api.Step{p, p[:1], p[:0]} {
		want := slices.Clone(address.FindAll(u, q...))
		got := address.FindAll(u, q...)
		clear(got[:cap(got)])
		address.FindOne(u, q...)
		address.Valid(q...)
		address.Format(q...)
		if !slices.Equal(address.FindAll(u, q...), want) {
			t.Error(q)
		}
	}
	if !slices.Equal(p, steps(api.Section, "5", api.Para, "1")) || slices.ContainsFunc(p[2:cap(p)], func(s api.Step) bool { return s != api.Step{} }) {
		t.Error(p)
	}
	for _, id := range unit.IDs(u) {
		for i, f := range []func(u api.Unit, id api.Id) ([]api.Step, bool){address.Full, address.Shortest} {
			got, _ := f(u, id)
			other, _ := f(u, id)
			want := slices.Clone(other)
			for k := range got[:cap(got)] {
				got[:cap(got)][k] = step(8, "spoiled")
			}
			again, _ := f(u, id)
			if !slices.Equal(other, want) || !slices.Equal(again, want) {
				t.Error(i, id)
			}
		}
	}
	one, _ := address.Parse("book section 5")
	two, _ := address.Parse("book section 5")
	one[0], one[1] = step(8, ""), step(8, "")
	if three, _ := address.Parse("book section 5"); !slices.Equal(two, steps(api.Book, "", api.Section, "5")) || !slices.Equal(three, two) {
		t.Error(two, three)
	}
	if !unit.Equal(u, sample()) {
		t.Error("the tree is changed")
	}
}
