package citation_test

import (
	"math"
	"math/rand"
	"regexp"
	"slices"
	"strings"
	"testing"

	"pandect/api"
	"pandect/citation"
)

// The model: it follows the definitions. It tries all lengths of an occurrence, and recognizes the kinds of citations by the classes of their words.

var (
	kindWords   = []string{"book", "part", "section", "paragraph", "table", "row", "cell", "note"}
	pluralWords = []string{"", "parts", "sections", "paragraphs", "tables", "rows", "", "notes"}
	labelForm   = regexp.MustCompile(`\A[1-9][0-9]{0,3}[A-Z]{0,3}\z`)
)

// forms contains the classes of the words of each kind of citations.
var forms = []*regexp.Regexp{
	api.Plain:  regexp.MustCompile(`\AB?(kl)+\z`),
	api.Range:  regexp.MustCompile(`\AB?(kl)*plol\z`),
	api.This:   regexp.MustCompile(`\Atk(kl)*\z`),
	api.Said:   regexp.MustCompile(`\Ahsk(kl)*\z`),
	api.Former: regexp.MustCompile(`\AfB?(kl)+\z`),
}

// classOf returns the class of a word.
func classOf(word string) string {
	class := map[string]string{"book": "B", "this": "t", "the": "h", "said": "s", "formerly": "f", "to": "o"}[word]
	switch {
	case class != "":
		return class
	case slices.Contains(kindWords[1:], word):
		return "k"
	case word != "" && slices.Contains(pluralWords, word):
		return "p"
	case labelForm.MatchString(word):
		return "l"
	}
	return "x"
}

// citeOf returns the citation with the given words, without From and At, or false if there is none.
func citeOf(l []string) (api.Cite, bool) {
	classes := ""
	var c api.Cite
	for _, word := range l {
		class := classOf(word)
		switch last := len(c.Path) - 1; class {
		case "B":
			c.Path = append(c.Path, api.Step{})
		case "k":
			c.Path = append(c.Path, api.Step{Kind: slices.Index(kindWords, word)})
		case "p":
			c.Path = append(c.Path, api.Step{Kind: slices.Index(pluralWords, word)})
		case "l":
			if strings.HasSuffix(classes, "o") {
				c.To = word
			} else if last >= 0 {
				c.Path[last].Label = word
			}
		}
		classes += class
	}
	c.Kind = slices.IndexFunc(forms, func(form *regexp.Regexp) bool { return form.MatchString(classes) })
	return c, c.Kind >= 0 && len(c.Path) <= 9
}

// unmarked returns the words without one of the five characters behind the last one.
func unmarked(l []string) []string {
	l = slices.Clone(l)
	last := &l[len(l)-1]
	if n := len(*last); n > 0 && strings.Contains(",;.:)", (*last)[n-1:]) {
		*last = (*last)[:n-1]
	}
	return l
}

// occurrences returns the citations that occur in the sequence.
func occurrences(l []string) []api.Cite {
	var out []api.Cite
	for from := 0; from < len(l); from++ {
		for at := min(len(l), from+24); at > from; at-- {
			if c, ok := citeOf(unmarked(l[from:at])); ok {
				c.From, c.At = from, at
				out = append(out, c)
				from = at - 1
				break
			}
		}
	}
	return out
}

// wordsOf returns the words of the citation as the table says, whether it is valid or not.
func wordsOf(c api.Cite) []string {
	l := [][]string{nil, nil, {"this"}, {"the", "said"}, {"formerly"}}[c.Kind]
	for i, s := range c.Path {
		switch {
		case s == api.Step{}:
			l = append(l, "book")
		case i == 0 && (c.Kind == api.This || c.Kind == api.Said):
			l = append(l, kindWords[s.Kind])
		case i == len(c.Path)-1 && c.Kind == api.Range:
			l = append(l, pluralWords[s.Kind], s.Label, "to", c.To)
		default:
			l = append(l, kindWords[s.Kind], s.Label)
		}
	}
	return l
}

// isValid reports whether the citation is valid.
func isValid(c api.Cite) bool {
	n := len(c.Path)
	if c.Kind < 0 || c.Kind > 4 || n == 0 || n > 9 || (c.Kind == api.Range) != (c.To != "") || c.To != "" && !labelForm.MatchString(c.To) {
		return false
	}
	this := c.Kind == api.This || c.Kind == api.Said
	for i, s := range c.Path {
		book := i == 0 && n > 1 && !this && s == api.Step{}
		unlabelled := i == 0 && this && s.Label == ""
		labelled := !(i == 0 && this) && labelForm.MatchString(s.Label)
		if !book && (s.Kind < 1 || s.Kind > 7 || !unlabelled && !labelled) {
			return false
		}
	}
	return c.Kind != api.Range || c.Path[n-1].Kind != api.Cell
}

// Comparison with the model.

// same reports whether all fields are equal.
func same(a, b api.Cite) bool {
	return a.Kind == b.Kind && a.To == b.To && a.From == b.From && a.At == b.At && slices.Equal(a.Path, b.Path)
}

// checkCite compares Valid, Format and WordsOf with the model, and reads the citation again. It returns whether it is valid.
func checkCite(t *testing.T, c api.Cite) bool {
	t.Helper()
	want := isValid(c)
	var words []string
	if want {
		words = wordsOf(c)
	}
	if citation.Valid(c) != want || citation.Format(c) != strings.Join(words, " ") {
		t.Fatalf("%v: %v %q, want %v %q", c, citation.Valid(c), citation.Format(c), want, words)
	}
	if got := citation.WordsOf(c.Path...); c.Kind == api.Plain && c.To == "" && !slices.Equal(got, words) {
		t.Fatalf("WordsOf(%v): %q", c.Path, got)
	}
	if want {
		c.From, c.At = 0, len(words)
		if got, errno := citation.Parse(strings.Join(words, " ")); errno != api.OK || !same(got, c) {
			t.Fatalf("Parse(%q): %v %d", words, got, errno)
		}
		if got := citation.Scan(words...); len(got) != 1 || !same(got[0], c) {
			t.Fatalf("Scan(%q): %v", words, got)
		}
	}
	return want
}

// expectValid expects what Valid returns, and compares all else with the model.
func expectValid(t *testing.T, c api.Cite, want bool) {
	t.Helper()
	if citation.Valid(c) != want {
		t.Errorf("Valid(%v): %v", c, !want)
	}
	checkCite(t, c)
}

// checkScan compares Scan with the model. It returns the number of citations.
func checkScan(t *testing.T, l ...string) int {
	t.Helper()
	got, want := citation.Scan(l...), occurrences(l)
	if !slices.EqualFunc(got, want, same) {
		t.Fatalf("Scan(%q): %v, want %v", l, got, want)
	}
	end := 0
	for _, c := range got {
		if c.From < end || c.At <= c.From || c.At > len(l) || !citation.Valid(c) || !slices.Equal(wordsOf(c), unmarked(l[c.From:c.At])) {
			t.Fatalf("Scan(%q): %v", l, got)
		}
		end = c.At
	}
	return len(got)
}

// expectScan expects the places of the citations in the words of a text.
func expectScan(t *testing.T, text string, places ...api.Pair) {
	t.Helper()
	l := strings.Split(text, " ")
	var got []api.Pair
	for _, c := range citation.Scan(l...) {
		got = append(got, api.Pair{A: c.From, B: c.At})
	}
	if !slices.Equal(got, places) {
		t.Errorf("Scan(%q): %v, want %v", text, got, places)
	}
	checkScan(t, l...)
}

// checkParse compares Parse with the model. It returns whether there is a citation.
func checkParse(t *testing.T, s string) bool {
	t.Helper()
	words := strings.Split(s, " ")
	want, ok := citeOf(words)
	want.At = len(words)
	got, errno := citation.Parse(s)
	switch {
	case ok && (errno != api.OK || !same(got, want) || citation.Format(got) != s):
		t.Fatalf("Parse(%q): %v %d, want %v", s, got, errno, want)
	case !ok && (errno != api.ErrForm || !same(got, api.Cite{})):
		t.Fatalf("Parse(%q): %v %d", s, got, errno)
	}
	return ok
}

// Samples.

func step(kind int, label string) api.Step { return api.Step{Kind: kind, Label: label} }

// steps returns so many steps with labels.
func steps(n int) []api.Step {
	var l []api.Step
	for i := range n {
		l = append(l, step(1+i*3%7, []string{"1", "12AB", "9999ZZZ"}[i%3]))
	}
	return l
}

var (
	book       = step(api.Book, "")
	goodLabels = []string{"1", "9", "10", "12A", "12AB", "9999", "9999ZZZ"}
	badLabels  = []string{"0", "05", "A", "1a", "1ABCD", "10000", "-1", " 1", "1 ", "1,", "1\n", "to", "section", "\u0661", "1\xff", strings.Repeat("1", 1000)}
)

// samples returns valid citations of all kinds.
func samples() []api.Cite {
	five, two := step(api.Section, "5"), step(api.Para, "2")
	return []api.Cite{
		{Path: []api.Step{five}},
		{Path: []api.Step{book, five}},
		{Path: []api.Step{five, two, step(api.Note, "3A")}},
		{Path: steps(9)},
		{Kind: api.Range, Path: []api.Step{five}, To: "8"},
		{Kind: api.Range, Path: []api.Step{book, step(api.Part, "12AB")}, To: "5"},
		{Kind: api.Range, Path: append(slices.Clone(steps(8)), step(api.Note, "7")), To: "7"},
		{Kind: api.This, Path: []api.Step{step(api.Section, "")}},
		{Kind: api.This, Path: append([]api.Step{step(api.Part, "")}, steps(8)...)},
		{Kind: api.Said, Path: []api.Step{step(api.Cell, "")}},
		{Kind: api.Said, Path: []api.Step{step(api.Section, ""), two}},
		{Kind: api.Former, Path: []api.Step{five}},
		{Kind: api.Former, Path: append([]api.Step{book}, steps(8)...)},
	}
}

// P20.1: the examples and the words

func TestExamples(t *testing.T) {
	l := strings.Fields("under section 5 paragraph 2, or sections 6 to 8")
	want := []api.Cite{
		{Path: []api.Step{step(api.Section, "5"), step(api.Para, "2")}, From: 1, At: 5},
		{Kind: api.Range, Path: []api.Step{step(api.Section, "6")}, To: "8", From: 6, At: 10},
	}
	if got := citation.Scan(l...); !slices.EqualFunc(got, want, same) {
		t.Error(got)
	}
	checkScan(t, l...)
	said, errno := citation.Parse("the said section")
	if errno != api.OK || !same(said, api.Cite{Kind: api.Said, Path: []api.Step{step(api.Section, "")}, At: 3}) {
		t.Error(said, errno)
	}
}

func TestWords(t *testing.T) {
	for text, c := range map[string]api.Cite{
		"part 1":                            {Path: []api.Step{step(api.Part, "1")}},
		"section 5 paragraph 2":             {Path: []api.Step{step(api.Section, "5"), step(api.Para, "2")}},
		"book section 12AB":                 {Path: []api.Step{book, step(api.Section, "12AB")}},
		"book table 1 row 2 cell 3 note 4":  {Path: []api.Step{book, step(api.Table, "1"), step(api.Row, "2"), step(api.Cell, "3"), step(api.Note, "4")}},
		"note 4 part 1 part 1":              {Path: []api.Step{step(api.Note, "4"), step(api.Part, "1"), step(api.Part, "1")}},
		"parts 1 to 2":                      {Kind: api.Range, Path: []api.Step{step(api.Part, "1")}, To: "2"},
		"sections 6 to 8":                   {Kind: api.Range, Path: []api.Step{step(api.Section, "6")}, To: "8"},
		"sections 8A to 6":                  {Kind: api.Range, Path: []api.Step{step(api.Section, "8A")}, To: "6"},
		"sections 6 to 6":                   {Kind: api.Range, Path: []api.Step{step(api.Section, "6")}, To: "6"},
		"book paragraphs 1 to 9999ZZZ":      {Kind: api.Range, Path: []api.Step{book, step(api.Para, "1")}, To: "9999ZZZ"},
		"part 2 tables 1 to 2":              {Kind: api.Range, Path: []api.Step{step(api.Part, "2"), step(api.Table, "1")}, To: "2"},
		"cell 2 rows 1 to 2":                {Kind: api.Range, Path: []api.Step{step(api.Cell, "2"), step(api.Row, "1")}, To: "2"},
		"book section 2 row 5 notes 1 to 2": {Kind: api.Range, Path: []api.Step{book, step(api.Section, "2"), step(api.Row, "5"), step(api.Note, "1")}, To: "2"},
		"this section":                      {Kind: api.This, Path: []api.Step{step(api.Section, "")}},
		"this cell section 5 paragraph 2":   {Kind: api.This, Path: []api.Step{step(api.Cell, ""), step(api.Section, "5"), step(api.Para, "2")}},
		"the said part":                     {Kind: api.Said, Path: []api.Step{step(api.Part, "")}},
		"the said note cell 1":              {Kind: api.Said, Path: []api.Step{step(api.Note, ""), step(api.Cell, "1")}},
		"formerly row 7":                    {Kind: api.Former, Path: []api.Step{step(api.Row, "7")}},
		"formerly book section 5 table 1":   {Kind: api.Former, Path: []api.Step{book, step(api.Section, "5"), step(api.Table, "1")}},
	} {
		words := strings.Split(text, " ")
		if citation.Format(c) != text || !citation.Valid(c) || c.Kind == api.Plain && !slices.Equal(citation.WordsOf(c.Path...), words) {
			t.Errorf("%q: %q", text, citation.Format(c))
		}
		checkCite(t, c)
		c.At = len(words)
		if got, errno := citation.Parse(text); errno != api.OK || !same(got, c) {
			t.Errorf("%q: %v %d", text, got, errno)
		}
		if got := citation.Scan(words...); len(got) != 1 || !same(got[0], c) {
			t.Errorf("%q: %v", text, got)
		}
	}
}

// P20.1: Valid

// TestKinds checks every row of the table with paths of all lengths, with and without the book step and an empty label in front.
func TestKinds(t *testing.T) {
	for n := range 12 {
		for _, to := range []string{"", "8", "0"} {
			for kind := -2; kind <= 6; kind++ {
				plain := kind == api.Plain || kind == api.Former
				ranged := kind == api.Range
				this := kind == api.This || kind == api.Said
				good := plain && to == "" || ranged && to == "8"
				path := append(steps(n), step(api.Row, "3"))[:n+1] // n + 1 steps
				expectValid(t, api.Cite{Kind: kind, Path: steps(n)[:0:0], To: to}, false)
				expectValid(t, api.Cite{Kind: kind, Path: path, To: to}, good && n+1 <= 9)
				expectValid(t, api.Cite{Kind: kind, Path: append([]api.Step{book}, path...), To: to}, good && n+2 <= 9)
				expectValid(t, api.Cite{Kind: kind, Path: []api.Step{book}, To: to}, false)
				expectValid(t, api.Cite{Kind: kind, Path: append([]api.Step{step(api.Section, "")}, path...), To: to}, this && to == "" && n+2 <= 9)
				expectValid(t, api.Cite{Kind: kind, Path: append([]api.Step{step(api.Section, "")}, path[1:]...), To: to}, this && to == "" && n+1 <= 9)
				for i := range path {
					expectValid(t, api.Cite{Kind: kind, Path: slices.Insert(slices.Clone(path), i+1, book), To: to}, false)
					expectValid(t, api.Cite{Kind: kind, Path: slices.Insert(slices.Clone(path), i+1, step(api.Section, "")), To: to}, false)
				}
				expectValid(t, api.Cite{Kind: kind, Path: append([]api.Step{book, book}, path...), To: to}, false)
			}
		}
	}
	for _, kind := range []int{math.MinInt, -1, 5, 6, math.MaxInt} {
		for _, c := range samples() {
			c.Kind = kind
			expectValid(t, c, false)
		}
	}
}

// TestSteps puts each kind of steps with each label at each place.
func TestSteps(t *testing.T) {
	for _, kind := range []int{math.MinInt, -1, 0, 1, 2, 3, 4, 5, 6, 7, 8, math.MaxInt} {
		for _, label := range slices.Concat([]string{""}, goodLabels, badLabels) {
			for _, c := range samples() {
				for i := range c.Path {
					other := c
					other.Path = slices.Clone(c.Path)
					other.Path[i] = step(kind, label)
					checkCite(t, other)
				}
				if kind > 0 && kind < 8 && slices.Contains(goodLabels, label) {
					other := c
					other.Path = append(slices.Clone(c.Path), step(kind, label))
					expectValid(t, other, len(c.Path) < 9 && (c.Kind != api.Range || kind != api.Cell))
				}
			}
			checkCite(t, api.Cite{Path: []api.Step{step(kind, label)}})
		}
	}
	for i, c := range []struct {
		c    api.Cite
		want bool
	}{
		{api.Cite{Kind: api.Range, Path: []api.Step{step(api.Cell, "1")}, To: "2"}, false},
		{api.Cite{Kind: api.Range, Path: []api.Step{step(api.Row, "1"), step(api.Cell, "1")}, To: "2"}, false},
		{api.Cite{Kind: api.Range, Path: []api.Step{step(api.Cell, "1"), step(api.Row, "1")}, To: "2"}, true},
		{api.Cite{Kind: api.Range, Path: []api.Step{book}, To: "2"}, false},
		{api.Cite{Kind: api.This, Path: []api.Step{book}}, false},
		{api.Cite{Kind: api.Said, Path: []api.Step{book, step(api.Section, "1")}}, false},
		{api.Cite{Kind: api.This, Path: []api.Step{step(api.Section, "1")}}, false},
		{api.Cite{Kind: api.This, Path: []api.Step{step(api.Section, ""), book}}, false},
		{api.Cite{Kind: api.This, Path: []api.Step{step(api.Section, ""), step(api.Para, "")}}, false},
		{api.Cite{Path: []api.Step{step(api.Section, "")}}, false},
		{api.Cite{Path: []api.Step{step(api.Book, "1"), step(api.Section, "1")}}, false},
		{api.Cite{}, false},
	} {
		if citation.Valid(c.c) != c.want {
			t.Error(i)
		}
		checkCite(t, c.c)
	}
}

// TestToFromAndAt gives each kind each To, and any From and At.
func TestToFromAndAt(t *testing.T) {
	for _, c := range samples() {
		for _, to := range slices.Concat([]string{""}, goodLabels, badLabels) {
			other := c
			other.To = to
			expectValid(t, other, c.Kind == api.Range && slices.Contains(goodLabels, to) || c.Kind != api.Range && to == "")
		}
		for _, from := range []int{math.MinInt, -1, 0, 1, 7, math.MaxInt} {
			for _, at := range []int{math.MinInt, -1, 0, 1, 7, math.MaxInt} {
				other := c
				other.From, other.At = from, at
				if !citation.Valid(other) || citation.Format(other) != citation.Format(c) {
					t.Error(other)
				}
				checkCite(t, other)
				other.Path = nil
				if citation.Valid(other) || citation.Format(other) != "" {
					t.Error(other)
				}
			}
		}
	}
}

// TestShortCitations goes through all citations with up to three of many steps.
func TestShortCitations(t *testing.T) {
	var pool []api.Step
	for kind := -1; kind <= 8; kind++ {
		for _, label := range []string{"", "12AB", "0"} {
			pool = append(pool, step(kind, label))
		}
	}
	count := 0
	check := func(p ...api.Step) {
		for kind := -1; kind <= 5; kind++ {
			for _, to := range []string{"", "1", "0"} {
				if checkCite(t, api.Cite{Kind: kind, Path: p, To: to}) {
					count++
				}
			}
		}
	}
	check()
	for _, a := range pool {
		check(a)
		for _, b := range pool {
			check(a, b)
			for _, c := range pool {
				check(a, b, c)
			}
		}
	}
	// 7 labelled steps, of which 6 have a plural, behind nothing or the book step; or behind one of 7 steps without a label.
	if want := 2*2*(7+7*7) + 2*7*7*7 + 2*(6+7*6) + 7*7*6 + 2*(7+7*7+7*7*7); count != want {
		t.Error(count, want)
	}
}

func TestWordsOfInvalid(t *testing.T) {
	for _, p := range [][]api.Step{
		nil, {}, {book}, {book, book}, {step(api.Section, "1"), book}, {step(api.Section, "")}, {step(api.Section, "0")}, {step(-1, "1")}, {step(8, "1")}, {step(api.Section, "5"), step(api.Para, "")}, steps(10), append([]api.Step{book}, steps(9)...), {step(api.Book, "1")}, {step(math.MaxInt, "1")}, {step(math.MinInt, "")},
	} {
		if got := citation.WordsOf(p...); len(got) != 0 {
			t.Error(p, got)
		}
	}
	for _, p := range [][]api.Step{steps(1), steps(9), append([]api.Step{book}, steps(8)...)} {
		if got := citation.WordsOf(p...); !slices.Equal(got, wordsOf(api.Cite{Path: p})) || len(got) == 0 {
			t.Error(p, got)
		}
	}
}

// P20.1: Equal

func TestEqual(t *testing.T) {
	for _, c := range append(samples(), api.Cite{}, api.Cite{Kind: -3, Path: []api.Step{{Kind: 99, Label: "\n"}}, To: "x", From: 5, At: -5}) {
		clone := c
		clone.Path = slices.Clone(c.Path)
		if !citation.Equal(c, c) || !citation.Equal(c, clone) || !citation.Equal(clone, c) {
			t.Error(c)
		}
		changes := []func(c *api.Cite){
			func(c *api.Cite) { c.Kind++ }, func(c *api.Cite) { c.To += "x" }, func(c *api.Cite) { c.From++ }, func(c *api.Cite) { c.At-- }, func(c *api.Cite) { c.Path = append(slices.Clone(c.Path), api.Step{}) },
		}
		for i := range c.Path {
			changes = append(changes,
				func(c *api.Cite) { c.Path = slices.Clone(c.Path); c.Path[i].Kind++ },
				func(c *api.Cite) { c.Path = slices.Clone(c.Path); c.Path[i].Label += "x" },
				func(c *api.Cite) { c.Path = slices.Delete(slices.Clone(c.Path), i, i+1) })
		}
		for i, change := range changes {
			other := c
			change(&other)
			if citation.Equal(c, other) || citation.Equal(other, c) {
				t.Error(i, c, other)
			}
		}
	}
	if !citation.Equal(api.Cite{Path: nil}, api.Cite{Path: []api.Step{}}) || !citation.Equal(api.Cite{Path: []api.Step{}}, api.Cite{}) {
		t.Error("nil and empty")
	}
}

// P20.1, P20.3: Scan

// TestScan scans texts in which citations begin and end at all places.
func TestScan(t *testing.T) {
	type places = []api.Pair
	for text, want := range map[string]places{
		"": nil, "a": nil, "a b c d": nil, "section": nil, "5": nil, "5 section": nil, "section x": nil, "section section 5": {{A: 1, B: 3}}, "section 5 5": {{A: 0, B: 2}},
		"section 5": {{A: 0, B: 2}}, "x section 5": {{A: 1, B: 3}}, "section 5 x": {{A: 0, B: 2}}, "see section 5 and section 6 here": {{A: 1, B: 3}, {A: 4, B: 6}},
		"section 5 section 6": {{A: 0, B: 4}}, "section 5, section 6": {{A: 0, B: 2}, {A: 2, B: 4}}, "section 5 this section": {{A: 0, B: 2}, {A: 2, B: 4}}, "this section this part 5": {{A: 0, B: 2}, {A: 2, B: 4}}, "section 5 book section 6": {{A: 0, B: 2}, {A: 2, B: 5}}, "section 5 the said part part 1": {{A: 0, B: 2}, {A: 2, B: 7}}, "section 5 formerly section 6": {{A: 0, B: 2}, {A: 2, B: 5}}, // one directly behind the other
		"section 5 sections 6 to 8": {{A: 0, B: 6}}, "sections 6 to 8 section 5": {{A: 0, B: 4}, {A: 4, B: 6}}, "sections 6 to 8 to 9": {{A: 0, B: 4}}, "sections 6 to 8 paragraph 5": {{A: 0, B: 4}, {A: 4, B: 6}}, "sections 6 to 8 sections 9 to 10": {{A: 0, B: 4}, {A: 4, B: 8}},
		"section 5 paragraph": {{A: 0, B: 2}}, "section 5 paragraphs 2": {{A: 0, B: 2}}, "section 5 paragraphs 2 to": {{A: 0, B: 2}}, "section 5 paragraphs 2 to x": {{A: 0, B: 2}}, "section 5 paragraphs 2 to 3": {{A: 0, B: 6}}, "section 5 paragraph 2 to 3": {{A: 0, B: 4}}, "section 5 paragraph 2 x": {{A: 0, B: 4}}, "section 5 paragraphs to 3": {{A: 0, B: 2}}, // the beginning of a longer one
		"sections 6": nil, "sections 6 to": nil, "sections 6 to x": nil, "sections to 8": nil, "sections 6 8": nil, "sections x to 8": nil, "sections 6 to section 8": {{A: 3, B: 5}}, "sections 6 to sections 8 to 9": {{A: 3, B: 7}}, "sections 6 section 8": {{A: 2, B: 4}}, "section 6 to 8": {{A: 0, B: 2}}, "cells 1 to 2": nil, "cell 1 to 2": {{A: 0, B: 2}}, "row 1 cells 1 to 2": {{A: 0, B: 2}}, "books 1 to 2": nil,
		"this": nil, "this 5": nil, "this sections 5 to 6": {{A: 1, B: 5}}, "this this section": {{A: 1, B: 3}}, "this section 5": {{A: 0, B: 2}}, "this section section 5": {{A: 0, B: 4}}, "this book": nil, "this book section 5": {{A: 1, B: 4}}, "this section book section 5": {{A: 0, B: 2}, {A: 2, B: 5}}, "this section sections 5 to 6": {{A: 0, B: 2}, {A: 2, B: 6}}, "this section paragraph": {{A: 0, B: 2}}, "this said section": nil,
		"the": nil, "the said": nil, "the section": nil, "the section 5": {{A: 1, B: 3}}, "said section": nil, "said section 5": {{A: 1, B: 3}}, "the said 5": nil, "the said section": {{A: 0, B: 3}}, "the said section 5": {{A: 0, B: 3}}, "the said section paragraph 5": {{A: 0, B: 5}}, "the said book": nil, "the said book section 5": {{A: 2, B: 5}}, "the said sections 5 to 6": {{A: 2, B: 6}}, "the the said section": {{A: 1, B: 4}}, "the said said section": nil, "the said the said section": {{A: 2, B: 5}}, "the said this section": {{A: 2, B: 4}}, "the this section": {{A: 1, B: 3}},
		"formerly": nil, "formerly section": nil, "formerly section 5": {{A: 0, B: 3}}, "formerly section 5 paragraph 2": {{A: 0, B: 5}}, "formerly book": nil, "formerly book section 5": {{A: 0, B: 4}}, "formerly sections 5 to 6": {{A: 1, B: 5}}, "formerly section 5 paragraphs 5 to 6": {{A: 0, B: 3}, {A: 3, B: 7}}, "formerly this section": {{A: 1, B: 3}}, "formerly the said section": {{A: 1, B: 4}}, "formerly formerly section 5": {{A: 1, B: 4}}, "formerly book book section 5": {{A: 2, B: 5}}, "book formerly section 5": {{A: 1, B: 4}},
		"to": nil, "to 5": nil, "to section 5": {{A: 1, B: 3}}, "book": nil, "book 5": nil, "book section": nil, "book book section 5": {{A: 1, B: 4}}, "book x section 5": {{A: 2, B: 4}}, "book sections 5 to 6": {{A: 0, B: 5}}, "book this section": {{A: 1, B: 3}}, "book section 5 book section 5": {{A: 0, B: 3}, {A: 3, B: 6}},
		"Section 5": nil, "SECTION 5": nil, "section 5a": nil, "section 5A": {{A: 0, B: 2}}, "section 05": nil, "section 0": nil, "section 10000": nil, "section 9999ABC": {{A: 0, B: 2}}, "section five": nil, "This section": nil, "the Said section": nil, "THE said section": nil, "Formerly section 5": {{A: 1, B: 3}}, "Book section 5": {{A: 1, B: 3}}, "sections 5 TO 6": nil, "Sections 5 to 6": nil, "this Section": nil, "section 5 Paragraph 2": {{A: 0, B: 2}}, "para 5": nil, "notes 5": nil, "act 5": nil, // other words
	} {
		expectScan(t, text, want...)
		l := strings.Split(text, " ")
		for i := range want { // the same behind other words
			want[i].A += 2
			want[i].B += 2
		}
		expectScan(t, "and 5A "+strings.Join(l, " ")+" end", want...)
	}
}

// TestMarks puts characters behind the words of citations.
func TestMarks(t *testing.T) {
	for _, c := range samples() {
		words := wordsOf(c)
		n := len(words)
		for mark := range 256 {
			l := slices.Clone(words)
			l[n-1] += string([]byte{byte(mark)})
			got := citation.Scan(l...)
			if whole := len(got) == 1 && got[0].From == 0 && got[0].At == n && got[0].Kind == c.Kind && slices.Equal(got[0].Path, c.Path) && got[0].To == c.To; whole != strings.Contains(",;.:)", string(rune(mark))) && !labelForm.MatchString(l[n-1]) {
				t.Errorf("%q: %v", l, got)
			}
			checkScan(t, l...)
			checkScan(t, append(l, "section", "5")...)
		}
		for _, a := range []string{",", ";", ".", ":", ")", "(", "!", "?", "'", `"`, "-", " ", "\n", "\u00e9", "\u3002"} {
			for _, b := range []string{",", ";", ".", ":", ")", "(", "s", "1", " "} {
				l := slices.Clone(words) // two behind the last word
				l[n-1] += a + b
				if got := citation.Scan(l...); len(got) > 0 && got[0].At == n {
					t.Errorf("%q: %v", l, got)
				}
				checkScan(t, l...)
			}
			for i := range n - 1 { // one behind a word that is not the last one
				l := slices.Clone(words)
				l[i] += a
				if got := citation.Scan(l...); slices.ContainsFunc(got, func(c api.Cite) bool { return c.From <= i && c.At > i+1 }) {
					t.Errorf("%q: %v", l, got)
				}
				checkScan(t, l...)
				l[i] = a + words[i]
				checkScan(t, l...)
			}
			l := slices.Clone(words) // one ahead of the last word
			l[n-1] = a + l[n-1]
			checkScan(t, l...)
			checkScan(t, slices.Concat([]string{a}, words, []string{a})...)
		}
	}
	expectScan(t, "section 5, paragraph 2. sections 6 to 8: this part) the said note; formerly row 1,", api.Pair{A: 0, B: 2}, api.Pair{A: 2, B: 4}, api.Pair{A: 4, B: 8}, api.Pair{A: 8, B: 10}, api.Pair{A: 10, B: 13}, api.Pair{A: 13, B: 16})
	expectScan(t, "sections 6, to 8 sections 6 to, 8 sections, 6 to 8 this, section the, said part the said, part formerly, section 5 book, section 5 , ;", api.Pair{A: 21, B: 23}, api.Pair{A: 24, B: 26})
}

// TestOddWords scans words that are empty, have spaces in them or are not ASCII.
func TestOddWords(t *testing.T) {
	odd := []string{"", " ", "\x00", "\xff", "\u00e9", "section 5", "5 ", " 5", "section ", "5\n", "\u0665", "\uff15", "s\u0117ction", ",", ";,", "5,,", strings.Repeat("5", 1<<16), "this section", "book "}
	for _, c := range samples() {
		words := wordsOf(c)
		for _, word := range odd {
			for i := range words {
				l := slices.Clone(words)
				l[i] = word
				checkScan(t, l...)
				checkScan(t, slices.Insert(slices.Clone(words), i, word)...)
			}
			if got := citation.Scan(append(slices.Clone(words), word)...); len(got) != 1 || got[0].At != len(words) {
				t.Errorf("%q: %v", word, got)
			}
			if got := citation.Scan(append([]string{word}, words...)...); len(got) != 1 || got[0].From != 1 {
				t.Errorf("%q: %v", word, got)
			}
		}
	}
	for _, a := range odd {
		for _, b := range odd {
			if checkScan(t, a, b) != 0 || checkScan(t, a, b, "to", "5") != 0 || checkScan(t, "", "", a, b) != 0 {
				t.Errorf("%q %q", a, b)
			}
		}
	}
	if checkScan(t) != 0 || len(citation.Scan([]string{}...)) != 0 {
		t.Error("no words")
	}
}

// TestManySteps scans sequences of more steps than a path can have.
func TestManySteps(t *testing.T) {
	for n := range 40 {
		for _, start := range [][]string{nil, {"book"}, {"this", "part"}, {"the", "said", "part"}, {"formerly"}, {"formerly", "book"}} {
			for _, end := range [][]string{nil, {"sections", "6", "to", "8"}, {"section"}, {"sections", "6", "to"}} {
				l := slices.Clone(start)
				for i := range n {
					l = append(l, kindWords[1+i%7], "5")
				}
				checkScan(t, append(l, end...)...)
			}
		}
	}
	nine := strings.Repeat("section 5 ", 9)
	expectScan(t, nine+"x", api.Pair{A: 0, B: 18})
	expectScan(t, nine+"section 5", api.Pair{A: 0, B: 18}, api.Pair{A: 18, B: 20})
	expectScan(t, "book "+nine+"x", api.Pair{A: 0, B: 17}, api.Pair{A: 17, B: 19})
	expectScan(t, "this part "+nine+"x", api.Pair{A: 0, B: 18}, api.Pair{A: 18, B: 20})
	expectScan(t, nine+"sections 6 to 8", api.Pair{A: 0, B: 18}, api.Pair{A: 18, B: 22})
	expectScan(t, nine[10:]+"sections 6 to 8", api.Pair{A: 0, B: 20})
	expectScan(t, "book "+nine[10:]+"sections 6 to 8", api.Pair{A: 0, B: 17}, api.Pair{A: 17, B: 21})
}

// TestShortSequences scans all short sequences of some words.
func TestShortSequences(t *testing.T) {
	vocabulary := []string{"book", "section", "sections", "5", "6,", "to", "this", "the", "said", "formerly", "row.", "x"}
	counts := map[int]int{}
	var visit func(l []string, n int)
	visit = func(l []string, n int) {
		counts[checkScan(t, l...)]++
		for _, word := range vocabulary {
			if n > 0 {
				visit(append(slices.Clone(l), word), n-1)
			}
		}
	}
	visit(nil, 4)
	visit([]string{"section", "5"}, 3)
	visit([]string{"book", "sections", "5"}, 3)
	if counts[0] == 0 || counts[1] == 0 || counts[2] == 0 {
		t.Error(counts)
	}
}

// TestRandomSequences scans random sequences, in which parts of citations follow one another.
func TestRandomSequences(t *testing.T) {
	r := rand.New(rand.NewSource(20))
	vocabulary := slices.Concat(kindWords, pluralWords, goodLabels, []string{"this", "the", "said", "formerly", "to", "to", "to", "x", "5,", "6)", "0", "Section", "section,"})
	total := 0
	for range 6000 {
		var l []string
		for range r.Intn(12) {
			if r.Intn(3) == 0 {
				for range r.Intn(4) {
					l = append(l, vocabulary[r.Intn(len(vocabulary))])
				}
				continue
			}
			all := samples()
			words := wordsOf(all[r.Intn(len(all))])
			from := r.Intn(2) * r.Intn(len(words))
			at := len(words) - r.Intn(2)*r.Intn(len(words)-from)
			words = words[from:at]
			if r.Intn(3) == 0 {
				words[len(words)-1] += string(",;.:)!"[r.Intn(6)])
			}
			l = append(l, words...)
		}
		total += checkScan(t, l...)
	}
	if total < 10000 {
		t.Error(total)
	}
}

// P20.1, P20.2: Parse

// TestParseChanged parses the texts of citations with one word left out, exchanged or put in, with other spaces, and with further characters.
func TestParseChanged(t *testing.T) {
	vocabulary := slices.Concat(kindWords, pluralWords[1:], []string{"this", "the", "said", "formerly", "to", "5", "12AB", "0", "05", "x", "Section", "SECTION", "5,", ","})
	for _, c := range samples() {
		text := citation.Format(c)
		if !checkParse(t, text) {
			t.Error(text)
		}
		words := strings.Split(text, " ")
		for i := range words {
			check := func(l []string) { checkParse(t, strings.Join(l, " ")) }
			check(words[:i])
			check(words[i:])
			check(slices.Delete(slices.Clone(words), i, i+1))
			for _, word := range vocabulary {
				l := slices.Clone(words)
				l[i] = word
				check(l)
				check(slices.Insert(slices.Clone(words), i, word))
				check(append(slices.Clone(words), word))
			}
			for j := range i {
				l := slices.Clone(words)
				l[i], l[j] = l[j], l[i]
				check(l)
			}
		}
		refuse := func(s string) {
			t.Helper()
			if checkParse(t, s) {
				t.Errorf("%q", s)
			}
		}
		for _, more := range []string{",", ";", ".", ":", ")", " ", "\n", "\t", "(", ",,", " ,", "\x00", "\u00e9"} {
			refuse(text + more)
			refuse(more + text)
			for i := range words[1:] {
				l := slices.Clone(words)
				l[i] += more
				refuse(strings.Join(l, " "))
			}
		}
		refuse(strings.ToUpper(text))
		refuse(strings.ReplaceAll(text, " ", "  "))
		refuse(strings.ReplaceAll(text, " ", "\n"))
		refuse(strings.ReplaceAll(text, " ", ""))
		refuse(text + " " + text + " book")
	}
	for _, s := range []string{"", " ", "  ", "book", "section", "5", "this", "the", "said", "the said", "formerly", "to", "formerly book", "this 5", "the section 5", "cells 1 to 2", "sections 1 to", "sections 1", "section 1 to 2", "this sections", "parts 1 to 2 3", "\xff", strings.Repeat("section 5 ", 9), strings.Repeat("section 5 ", 1<<14), strings.TrimSpace(strings.Repeat("section 5 ", 10)), "section " + strings.Repeat("5", 1<<16)} {
		if checkParse(t, s) {
			t.Errorf("%.60q", s)
		}
	}
}

// Memory, P1

// TestMemory changes all memory of results and of arguments.
func TestMemory(t *testing.T) {
	spoil := func(p []api.Step) {
		for i := range p[:cap(p)] {
			p[:cap(p)][i] = step(-77, "spoiled")
		}
	}
	var l []string
	var want []api.Cite
	for _, c := range samples() {
		words := wordsOf(c)
		words[len(words)-1] += ","
		c.From = len(l)
		l = append(l, words...)
		c.At = len(l)
		want = append(want, c)
	}
	room := append(slices.Clone(l), "room")
	got, again := citation.Scan(room[:len(l)]...), citation.Scan(l...)
	if !slices.Equal(room, append(slices.Clone(l), "room")) {
		t.Error("Scan modifies its argument")
	}
	for i := range room {
		room[i] = "spoiled"
	}
	if !slices.EqualFunc(got, want, same) {
		t.Error("Scan", got)
	}
	for i := range got { // the citations of one result share nothing
		spoil(got[i].Path)
		for j := range got {
			if j > i && !same(got[j], want[j]) {
				t.Error(i, j)
			}
		}
	}
	clear(got[:cap(got)])
	if !slices.EqualFunc(again, want, same) || !slices.EqualFunc(citation.Scan(l...), want, same) {
		t.Error("Scan", again)
	}
	for _, c := range samples() {
		kept := slices.Clone(c.Path)
		p := append(slices.Clone(c.Path), step(-1, "room"))[:len(c.Path)]
		given := c
		given.Path = p
		words := citation.WordsOf(p...)
		citation.Valid(given)
		citation.Equal(given, c)
		text := citation.Format(given)
		if !slices.Equal(p, kept) || p[:len(p)+1][len(p)] != step(-1, "room") {
			t.Error("an argument is modified")
		}
		a, _ := citation.Parse(text)
		b, _ := citation.Parse(text)
		spoil(a.Path)
		c.At = b.At
		if !same(b, c) {
			t.Error("Parse", b)
		}
		for i := range words[:cap(words)] {
			words[:cap(words)][i] = "spoiled"
		}
		if citation.Format(c) != text || !slices.Equal(p, kept) {
			t.Error("WordsOf")
		}
	}
}

// TestLongArguments gives long arguments to all functions.
func TestLongArguments(t *testing.T) {
	const n = 1 << 16
	for _, words := range [][]string{{"section", "5"}, {"this"}, {"book"}, {"formerly", "book"}, {"the", "said"}, {"sections", "6", "to"}, {""}, {"sections", "6", "to", "8)"}} {
		l := slices.Repeat(words, n)
		got := citation.Scan(l...)
		if want := map[string]int{"section": (n + 8) / 9, "sections": n}[words[0]]; len(words)%2 == 0 && len(got) != want {
			t.Error(words, len(got))
		}
		if c, errno := citation.Parse(strings.Join(l, " ")); errno != api.ErrForm || !same(c, api.Cite{}) {
			t.Error(words, errno)
		}
	}
	p := slices.Repeat([]api.Step{step(api.Section, "5")}, n)
	if c := (api.Cite{Path: p}); citation.Valid(c) || citation.Format(c) != "" || len(citation.WordsOf(p...)) != 0 || !citation.Equal(c, c) {
		t.Error("long path")
	}
	if c := (api.Cite{Path: p[:1], To: strings.Repeat("5", n)}); citation.Valid(c) || citation.Format(c) != "" {
		t.Error("long label")
	}
}

// FuzzParse compares Parse and Scan with the model.
func FuzzParse(f *testing.F) {
	for _, c := range samples() {
		f.Add(citation.Format(c))
	}
	f.Fuzz(func(t *testing.T, s string) {
		checkParse(t, s)
		checkScan(t, strings.Split(s, " ")...)
	})
}
