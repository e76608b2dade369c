package plaintext_test

import (
	"fmt"
	"math"
	"math/rand"
	"regexp"
	"slices"
	"strings"
	"testing"

	"pandect/api"
	"pandect/plaintext"
	"pandect/unit"
)

// words returns the pieces of the text between its spaces as words with marks.
func words(text string) []api.Word {
	if text == "" {
		return nil
	}
	var l []api.Word
	for i, s := range strings.Split(text, " ") {
		l = append(l, api.Word{Text: s, By: api.Mark{Act: 4, Item: 1, At: i}})
	}
	return l
}

// unitOf returns a unit with the words of two texts as its heading and its body.
func unitOf(kind int, label, head, body string, kids ...api.Unit) api.Unit {
	return api.Unit{Kind: kind, Label: label, Head: words(head), Words: words(body), Kids: kids}
}

// plain returns a unit without words.
func plain(kind int, label string, kids ...api.Unit) api.Unit {
	return unitOf(kind, label, "", "", kids...)
}

// rooted returns a unit of the kind, with a label if the kind needs one.
func rooted(kind int, kids ...api.Unit) api.Unit {
	if kind == api.Book {
		return plain(kind, "", kids...)
	}
	return plain(kind, "1", kids...)
}

// numbered returns n units of the kind with the labels 1, 2, ....
func numbered(kind, n int) []api.Unit {
	var l []api.Unit
	for i := range n {
		l = append(l, plain(kind, fmt.Sprint(i+1)))
	}
	return l
}

// chain returns units of the kinds, one in the other.
func chain(kinds ...int) api.Unit {
	if len(kinds) == 1 {
		return rooted(kinds[0])
	}
	return rooted(kinds[0], chain(kinds[1:]...))
}

// paras returns the kinds and then n times the kind of paragraphs.
func paras(n int, kinds ...int) []int {
	return append(slices.Clone(kinds), slices.Repeat([]int{api.Para}, n)...)
}

// grid returns a table with so many units: rows of 63 cells, but for the last one, which may have fewer.
func grid(units int) api.Unit {
	u := plain(api.Table, "1")
	for left := units - 1; left > 0; left -= 64 {
		u.Kids = append(u.Kids, plain(api.Row, fmt.Sprint(len(u.Kids)+1), numbered(api.Cell, min(left, 64)-1)...))
	}
	return u
}

// copyOf returns a copy that shares nothing with u.
func copyOf(u api.Unit) api.Unit {
	u.Head, u.Words, u.Kids = slices.Clone(u.Head), slices.Clone(u.Words), slices.Clone(u.Kids)
	for i := range u.Kids {
		u.Kids[i] = copyOf(u.Kids[i])
	}
	return u
}

// nodes returns pointers to all units of a tree that shares nothing within itself, in document order.
func nodes(u *api.Unit) []*api.Unit {
	l := []*api.Unit{u}
	for i := range u.Kids {
		l = append(l, nodes(&u.Kids[i])...)
	}
	return l
}

// numberedTree returns a copy of the tree with different IDs, and with the zero ID for a book.
func numberedTree(u api.Unit) api.Unit {
	u = copyOf(u)
	for i, x := range nodes(&u) {
		x.Id = api.Id{Act: 3, Item: 2, N: i + 1}
	}
	if u.Kind == api.Book {
		u.Id = api.Id{}
	}
	return u
}

// alone returns the unit without its children, and without its ID and marks.
func alone(u api.Unit) api.Unit {
	u.Kids = nil
	return unit.Strip(u)
}

// isZero reports whether the unit is the zero unit.
func isZero(u api.Unit) bool { return unit.Equal(u, api.Unit{}) }

// sample returns a valid tree with all kinds of units and all kinds of words, with IDs and marks.
func sample() api.Unit {
	table := unitOf(api.Table, "1", "duties", "", plain(api.Row, "1", unitOf(api.Cell, "1", "", "salt"), unitOf(api.Cell, "2", "x", "2 |")), plain(api.Row, "2"))
	para := unitOf(api.Para, "1A", `\ |`, `| \ || \\ a|b a\b`, plain(api.Para, "1", unitOf(api.Note, "1", "a: b:", "see : 5")), table, plain(api.Note, "9999ZZZ"))
	section := unitOf(api.Section, "5", "a b", "c | d", para, unitOf(api.Note, "1", "", "text ~ !"), plain(api.Para, "2"))
	return numberedTree(plain(api.Book, "", unitOf(api.Part, "1", "of taxes", "", section, plain(api.Section, "6")), unitOf(api.Section, "5", "", "e")))
}

// The model: it follows the definitions.

const (
	maxDepth = 8
	maxText  = 16384
)

// names are the names of the kinds.
var names = []string{"book", "part", "section", "paragraph", "table", "row", "cell", "note"}

// allowed are the kinds of children that each kind can contain.
var allowed = map[int][]int{
	api.Book: {api.Part, api.Section}, api.Part: {api.Section}, api.Section: {api.Para, api.Table, api.Note}, api.Para: {api.Para, api.Table, api.Note}, api.Table: {api.Row}, api.Row: {api.Cell},
}

// wordInLine is the form of a word in a line: with an escape, or without one.
const wordInLine = `(?:\\[|\\][!-~]{0,23}|[!-[\]-{}~][!-~]{0,23})`

var (
	labelForm = regexp.MustCompile(`\A[1-9][0-9]{0,3}[A-Z]{0,3}\z`)
	wordForm  = regexp.MustCompile(`\A[!-~]{1,24}\z`)
	lineForm  = regexp.MustCompile(`\A((?:  ){0,8})([a-z]+)(?: ([1-9][0-9]{0,3}[A-Z]{0,3}))?(?::((?: ` + wordInLine + `)+))?(?: \|((?: ` + wordInLine + `)+))?\z`)
)

// validWords reports whether the words can be a heading or a body.
func validWords(l []api.Word) bool {
	return len(l) <= 256 && !slices.ContainsFunc(l, func(w api.Word) bool { return !wordForm.MatchString(w.Text) })
}

// lineOf returns the line of the unit, or the empty string if there is none.
func lineOf(u api.Unit, depth int) string {
	if depth < 0 || depth > maxDepth || u.Kind < 0 || u.Kind >= len(names) || !validWords(u.Head) || !validWords(u.Words) {
		return ""
	}
	s := strings.Repeat(" ", 2*depth) + names[u.Kind]
	if u.Kind == api.Book {
		if u.Label != "" || len(u.Head) != 0 || len(u.Words) != 0 {
			return ""
		}
		return s
	}
	if !labelForm.MatchString(u.Label) {
		return ""
	}
	s += " " + u.Label
	if len(u.Head) > 0 {
		s += ":" + written(u.Head)
	}
	if len(u.Words) > 0 {
		s += " |" + written(u.Words)
	}
	return s
}

// written returns the words, each preceded by a space.
func written(l []api.Word) string {
	out := ""
	for _, w := range l {
		out += " "
		if w.Text[0] == '|' || w.Text[0] == '\\' {
			out += `\`
		}
		out += w.Text
	}
	return out
}

// readLine returns the unit and the depth that the line describes, and false if it is not a valid line.
func readLine(s string) (api.Unit, int, bool) {
	m := lineForm.FindStringSubmatch(s)
	if m == nil || !slices.Contains(names, m[2]) {
		return api.Unit{}, 0, false
	}
	u := api.Unit{Kind: slices.Index(names, m[2]), Label: m[3], Head: readWords(m[4]), Words: readWords(m[5])}
	isBook := u.Kind == api.Book
	if isBook != (u.Label == "") || isBook && len(u.Head)+len(u.Words) > 0 || len(u.Head) > 256 || len(u.Words) > 256 {
		return api.Unit{}, 0, false
	}
	return u, len(m[1]) / 2, true
}

// readWords returns the words that are written with a space in front of each.
func readWords(s string) []api.Word {
	var l []api.Word
	for _, field := range strings.Fields(s) {
		if field[0] == '\\' {
			field = field[1:]
		}
		l = append(l, api.Word{Text: field})
	}
	return l
}

// linesOf returns the lines of a tree that can be formatted.
func linesOf(u api.Unit, depth int) []string {
	l := []string{lineOf(u, depth)}
	for _, kid := range u.Kids {
		l = append(l, linesOf(kid, depth+1)...)
	}
	return l
}

// textOf returns the text of a tree that can be formatted, however long it is.
func textOf(u api.Unit) string {
	text := ""
	for _, line := range linesOf(u, 0) {
		text += line + "\n"
	}
	return text
}

// entry is a line of a text that is being parsed: its unit, its depth, the number of the line of the parent, and the numbers of the lines of the children.
type entry struct {
	u             api.Unit
	depth, parent int
	kids          []int
}

// read returns what Parse returns.
func read(s string) (api.Unit, int, api.Errno) {
	if len(s) > maxText {
		return api.Unit{}, 0, api.ErrFull
	}
	pieces := strings.SplitAfter(s, "\n")
	if len(pieces) > 1 && pieces[len(pieces)-1] == "" {
		pieces = pieces[:len(pieces)-1]
	}
	var l []entry
	for i, piece := range pieces {
		line, ended := strings.CutSuffix(piece, "\n")
		u, depth, ok := readLine(line)
		if !ok || !ended {
			return api.Unit{}, i, api.ErrForm
		}
		if errno := addEntry(&l, u, depth); errno != api.OK {
			return api.Unit{}, i, errno
		}
	}
	return treeAt(l, 0), len(l), api.OK
}

// addEntry adds a line, or returns an error.
func addEntry(l *[]entry, u api.Unit, depth int) api.Errno {
	i := len(*l)
	if i == 0 {
		if depth != 0 {
			return api.ErrRange
		}
		*l = append(*l, entry{u: u})
		return api.OK
	}
	if depth < 1 || depth > (*l)[i-1].depth+1 {
		return api.ErrRange
	}
	parent := i - 1
	for (*l)[parent].depth != depth-1 {
		parent--
	}
	p := &(*l)[parent]
	if u.Kind == api.Book || !slices.Contains(allowed[p.u.Kind], u.Kind) {
		return api.ErrKind
	}
	for _, k := range p.kids {
		if (*l)[k].u.Kind == u.Kind && (*l)[k].u.Label == u.Label {
			return api.ErrDuplicateLabel
		}
	}
	if len(p.kids) >= 64 || i >= 1024 {
		return api.ErrFull
	}
	p.kids = append(p.kids, i)
	*l = append(*l, entry{u: u, depth: depth, parent: parent})
	return api.OK
}

// treeAt returns the tree below the line i.
func treeAt(l []entry, i int) api.Unit {
	u := l[i].u
	for _, k := range l[i].kids {
		u.Kids = append(u.Kids, treeAt(l, k))
	}
	return u
}

// formattable reports whether the tree can be formatted.
func formattable(u api.Unit) bool {
	count := 0
	var test func(u api.Unit, depth int) bool
	test = func(u api.Unit, depth int) bool {
		count++
		if lineOf(u, depth) == "" || count > 1024 || len(u.Kids) > 64 {
			return false
		}
		for i, kid := range u.Kids {
			same := slices.IndexFunc(u.Kids, func(x api.Unit) bool { return x.Kind == kid.Kind && x.Label == kid.Label })
			if same != i || !slices.Contains(allowed[u.Kind], kid.Kind) || !test(kid, depth+1) {
				return false
			}
		}
		return true
	}
	return test(u, 0)
}

// Comparison with the model.

// checkLine compares FormatLine with the model, and ParseLine if there is a line. It returns whether there is one.
func checkLine(t *testing.T, u api.Unit, depth int) bool {
	t.Helper()
	want := lineOf(u, depth)
	if got := plaintext.FormatLine(u, depth); got != want {
		t.Fatalf("FormatLine(%v, %d): %q, want %q", u, depth, got, want)
	}
	if want == "" {
		return false
	}
	x, n, errno := plaintext.ParseLine(want)
	if errno != api.OK || n != depth || !unit.Equal(x, alone(u)) {
		t.Fatalf("ParseLine(%q): %v %d %v", want, x, n, errno)
	}
	return true
}

// checkParseLine compares ParseLine with the model, and returns whether the line is valid.
func checkParseLine(t *testing.T, s string) bool {
	t.Helper()
	u, depth, ok := readLine(s)
	errno := api.OK
	if !ok {
		errno = api.ErrForm
	}
	got, n, e := plaintext.ParseLine(s)
	if !unit.Equal(got, u) || n != depth || e != errno {
		t.Fatalf("ParseLine(%q): %v %d %v, want %v %d %v", s, got, n, e, u, depth, errno)
	}
	if ok && plaintext.FormatLine(got, n) != s {
		t.Fatalf("FormatLine after ParseLine(%q): %q", s, plaintext.FormatLine(got, n))
	}
	return ok
}

// expectLine expects that the line is that of the unit at the depth.
func expectLine(t *testing.T, u api.Unit, depth int, line string) {
	t.Helper()
	if got := plaintext.FormatLine(u, depth); got != line {
		t.Errorf("FormatLine: %q, want %q", got, line)
	}
	got, n, errno := plaintext.ParseLine(line)
	if errno != api.OK || n != depth || !unit.Equal(got, alone(u)) {
		t.Errorf("ParseLine(%q): %v %d %v", line, got, n, errno)
	}
}

// expectNoLine expects that there is no line for the unit at the depth.
func expectNoLine(t *testing.T, u api.Unit, depth int) {
	t.Helper()
	if got := plaintext.FormatLine(u, depth); got != "" {
		t.Errorf("FormatLine: %q", got)
	}
	checkLine(t, u, depth)
}

// expectBadLine expects that the line is not valid.
func expectBadLine(t *testing.T, s string) {
	t.Helper()
	u, n, errno := plaintext.ParseLine(s)
	if errno != api.ErrForm || n != 0 || !isZero(u) {
		t.Errorf("ParseLine(%q): %v %d %v", s, u, n, errno)
	}
	checkParseLine(t, s)
}

// checkTree compares Format, Lines and Parse with the model.
func checkTree(t *testing.T, u api.Unit) api.Errno {
	t.Helper()
	var lines []string
	text, errno := "", api.ErrArg
	if formattable(u) {
		lines, text, errno = linesOf(u, 0), textOf(u), api.OK
	}
	if len(text) > maxText {
		text, errno = "", api.ErrFull
	}
	if got := plaintext.Lines(u); !slices.Equal(got, lines) {
		t.Fatalf("Lines: %q, want %q", got, lines)
	}
	if got, e := plaintext.Format(u); got != text || e != errno {
		t.Fatalf("Format: %q %v, want %q %v", got, e, text, errno)
	}
	if errno == api.OK {
		expectRoundTrip(t, u, text)
	}
	return errno
}

// expectRoundTrip expects that the text is parsed to the tree, and that the parsed tree is formatted to the text.
func expectRoundTrip(t *testing.T, u api.Unit, text string) {
	t.Helper()
	got, n, errno := plaintext.Parse(text)
	if errno != api.OK || n != unit.Count(u) || !unit.Equal(got, unit.Strip(u)) || !unit.IsBare(got) {
		t.Fatalf("Parse(%q): %v %d %v", text, got, n, errno)
	}
	if again, errno := plaintext.Format(got); again != text || errno != api.OK {
		t.Fatalf("Format after Parse: %q %v, want %q", again, errno, text)
	}
}

// checkParse compares Parse with the model, and returns the error.
func checkParse(t *testing.T, s string) api.Errno {
	t.Helper()
	u, n, errno := read(s)
	got, m, e := plaintext.Parse(s)
	if !unit.Equal(got, u) || m != n || e != errno {
		t.Fatalf("Parse(%q): %v %d %v, want %v %d %v", s, got, m, e, u, n, errno)
	}
	if errno == api.OK {
		expectRoundTrip(t, u, s)
	}
	return errno
}

// expectError expects an error of Parse in the line n.
func expectError(t *testing.T, s string, n int, errno api.Errno) {
	t.Helper()
	u, m, e := plaintext.Parse(s)
	if e != errno || m != n || !isZero(u) {
		t.Errorf("Parse(%.200q): %d %v, want %d %v", s, m, e, n, errno)
	}
	checkParse(t, s)
}

// expectTree expects that the tree has the text.
func expectTree(t *testing.T, u api.Unit, text string) {
	t.Helper()
	if got, errno := plaintext.Format(u); got != text || errno != api.OK {
		t.Errorf("Format: %q %v, want %q", got, errno, text)
	}
	expectRoundTrip(t, u, text)
	checkTree(t, u)
}

// P11.1: FormatLine and ParseLine

func TestExample(t *testing.T) {
	u := unitOf(api.Section, "5", "a b", "c | d", unitOf(api.Para, "1", "", "e"))
	if got := plaintext.Lines(u); !slices.Equal(got, []string{`section 5: a b | c \| d`, "  paragraph 1 | e"}) {
		t.Errorf("%q", got)
	}
	expectTree(t, u, "section 5: a b | c \\| d\n  paragraph 1 | e\n")
	expectLine(t, u, 0, `section 5: a b | c \| d`)
	expectLine(t, u.Kids[0], 1, "  paragraph 1 | e")
}

func TestSampleText(t *testing.T) {
	expectTree(t, sample(), `book
  part 1: of taxes
    section 5: a b | c \| d
      paragraph 1A: \\ \| | \| \\ \|| \\\ a|b a\b
        paragraph 1
          note 1: a: b: | see : 5
        table 1: duties
          row 1
            cell 1 | salt
            cell 2: x | 2 \|
          row 2
        note 9999ZZZ
      note 1 | text ~ !
      paragraph 2
    section 6
  section 5 | e
`)
}

func TestKinds(t *testing.T) {
	expectLine(t, api.Unit{}, 0, "book")
	expectLine(t, api.Unit{}, 1, "  book")
	for kind, name := range names {
		if kind == api.Book {
			continue
		}
		expectLine(t, plain(kind, "12A"), 0, name+" 12A")
		expectLine(t, unitOf(kind, "1", "head", ""), 2, "    "+name+" 1: head")
		expectLine(t, unitOf(kind, "1", "", "body"), 2, "    "+name+" 1 | body")
		expectLine(t, unitOf(kind, "1", "head line", "body text"), 3, "      "+name+" 1: head line | body text")
		for _, s := range []string{name, name + " ", name + ":", name + ": a", name + " | a", name + "1", name + "  1", strings.ToUpper(name) + " 1", "x" + name + " 1", name + "s 1", name[1:] + " 1", name[:len(name)-1] + " 1", name + "\t1", name + " 1\n", "\n" + name + " 1", name + "\n1", name + " 1\r"} {
			expectBadLine(t, s)
		}
	}
	for _, kind := range []int{math.MinInt, -8, -1, 8, 9, 100, math.MaxInt} {
		for _, u := range []api.Unit{plain(kind, ""), plain(kind, "1"), unitOf(kind, "1", "a", "b")} {
			expectNoLine(t, u, 0)
			checkTree(t, u)
			checkTree(t, plain(api.Section, "1", u))
		}
	}
	for _, s := range []string{"", "1", " 1", "para 1", "chapter 1", "8 1", "2 1", "book 1", "Book", "books", "1 section", "section section 1"} {
		expectBadLine(t, s)
	}
}

func TestBook(t *testing.T) {
	for _, u := range []api.Unit{plain(api.Book, "1"), plain(api.Book, " "), plain(api.Book, "x"), unitOf(api.Book, "", "a", ""), unitOf(api.Book, "", "", "a"), unitOf(api.Book, "1", "a", "b")} {
		expectNoLine(t, u, 0)
		if errno := checkTree(t, u); errno != api.ErrArg {
			t.Error(u, errno)
		}
	}
	for _, s := range []string{"book 1", "book: a", "book | a", "book: a | b", "book 1: a", "book:", "book |", "book ", "book  ", " book", "book\n", "book\x00", "book book", "bookbook"} {
		expectBadLine(t, s)
		if !strings.Contains(s, "\n") {
			expectError(t, s+"\n", 0, api.ErrForm)
		}
	}
	expectTree(t, api.Unit{}, "book\n")
}

func TestLabels(t *testing.T) {
	for _, s := range []string{"1", "9", "10", "9999", "1A", "12AB", "9999ZZZ", "1AAA", "1000Z"} {
		expectLine(t, plain(api.Section, s), 0, "section "+s)
		expectLine(t, unitOf(api.Note, s, "a", "b"), 1, "  note "+s+": a | b")
	}
	for _, s := range []string{"", " ", "0", "01", "00", "10000", "A", "A1", "1a", "1AAAA", "1A1", "-1", "+1", "1.", "1:", "1 ", " 1", "1|", "1\n", "１", "1é", "\xff", "1\x00", "1 A", "1 |", "1: a", "1 | a", strings.Repeat("1", 1000)} {
		expectNoLine(t, plain(api.Section, s), 0)
		expectNoLine(t, unitOf(api.Section, s, "a", "b"), 1)
		if errno := checkTree(t, plain(api.Section, s)); errno != api.ErrArg {
			t.Errorf("%q %v", s, errno)
		}
		checkParseLine(t, "section "+s)
		checkParseLine(t, "section "+s+": a | b")
	}
	for _, s := range []string{"section 0", "section 01", "section 10000", "section A", "section 1a", "section 1AAAA", "section -1", "section 1.", "section 1 2", "section 1 A", "section １", "section 0: a | b"} {
		expectBadLine(t, s)
	}
}

func TestDepths(t *testing.T) {
	for depth := 0; depth <= maxDepth; depth++ {
		expectLine(t, api.Unit{}, depth, strings.Repeat("  ", depth)+"book")
		expectLine(t, unitOf(api.Cell, "7", "a", "b"), depth, strings.Repeat("  ", depth)+"cell 7: a | b")
	}
	for _, depth := range []int{math.MinInt, -9, -8, -2, -1, 9, 10, 16, 1 << 10, math.MaxInt} {
		expectNoLine(t, api.Unit{}, depth)
		expectNoLine(t, plain(api.Cell, "7"), depth)
	}
	for spaces := range 40 {
		s := strings.Repeat(" ", spaces)
		expectBadLine(t, s)
		for _, line := range []string{"book", "cell 7", "cell 7: a | b"} {
			if ok := checkParseLine(t, s+line); ok != (spaces%2 == 0 && spaces <= 16) {
				t.Errorf("%q %v", s+line, ok)
			}
		}
	}
	for _, s := range []string{" cell 7", "   cell 7", "                  cell 7", "                 cell 7", "\tcell 7", " \tcell 7", "\u00a0\u00a0cell 7"} {
		expectBadLine(t, s)
	}
}

func TestWords(t *testing.T) {
	long := strings.Repeat("a", 24)
	for _, s := range []string{"a", "!", "~", "A9", ":", "::", ";", "a:", ":a", "1", "book", "section", long, strings.Repeat("~", 24), `"`, "`", "^1", "-", "+", "a\\", "a|", "a|b", `a\b`, "a||", `a\\`} {
		expectLine(t, unitOf(api.Section, "5", s, ""), 0, "section 5: "+s)
		expectLine(t, unitOf(api.Section, "5", "", s), 0, "section 5 | "+s)
		expectLine(t, unitOf(api.Section, "5", s+" "+s, s+" "+s), 1, "  section 5: "+s+" "+s+" | "+s+" "+s)
	}
	spaced := []string{"", " ", "a b", "a ", " a", "  "}
	bad := []string{long + "a", strings.Repeat("a", 25), strings.Repeat("a", 1000), "\x00", "a\x1f", "\x7f", "a\x7fb", "\x80", "é", "a\xff", "\t", "\n", "a\nb", "\r", "\u00a0"}
	for _, s := range append(spaced, bad...) {
		for _, l := range [][]api.Word{{{Text: s}}, {{Text: "a"}, {Text: s}}, {{Text: s}, {Text: "a"}}} {
			expectNoLine(t, api.Unit{Kind: api.Section, Label: "5", Head: l}, 0)
			expectNoLine(t, api.Unit{Kind: api.Section, Label: "5", Words: l}, 0)
			expectNoLine(t, api.Unit{Kind: api.Section, Label: "5", Head: l, Words: l}, 1)
			if errno := checkTree(t, plain(api.Section, "5", api.Unit{Kind: api.Para, Label: "1", Words: l})); errno != api.ErrArg {
				t.Errorf("%q %v", s, errno)
			}
		}
	}
	for _, s := range bad {
		for _, line := range []string{"section 5: " + s, "section 5 | " + s, "section 5: a " + s + " a", "section 5 | a " + s + " a", "section 5: " + s + " | a", "section 5: a | " + s} {
			expectBadLine(t, line)
		}
	}
	for b := range 256 {
		s := string([]byte{byte(b)})
		u := api.Unit{Kind: api.Note, Label: "1", Words: []api.Word{{Text: "a" + s + "a"}}, Head: []api.Word{{Text: s}}}
		if ok := checkLine(t, u, 1); ok != (b >= 33 && b <= 126) {
			t.Error(b, ok)
		}
		checkParseLine(t, "note 1: "+s+" | a"+s+"a")
	}
}

func TestEscapes(t *testing.T) {
	for word, want := range map[string]string{
		"|": `\|`, "||": `\||`, "|a": `\|a`, "|a|": `\|a|`, `|\`: `\|\`, `\`: `\\`, `\\`: `\\\`, `\a`: `\\a`, `\|`: `\\|`, `\\\`: `\\\\`, `a|`: `a|`, `a\`: `a\`, `a|b`: `a|b`, `a\b`: `a\b`, ":|": ":|",
		"|" + strings.Repeat("a", 23): `\|` + strings.Repeat("a", 23), strings.Repeat(`\`, 24): strings.Repeat(`\`, 25), strings.Repeat("|", 24): `\` + strings.Repeat("|", 24),
	} {
		expectLine(t, unitOf(api.Section, "5", word, ""), 0, "section 5: "+want)
		expectLine(t, unitOf(api.Section, "5", "", word), 0, "section 5 | "+want)
		expectLine(t, unitOf(api.Section, "5", word+" a "+word, "b "+word+" "+word), 0, "section 5: "+want+" a "+want+" | b "+want+" "+want)
	}
	for _, s := range []string{
		"section 5: |", "section 5: | a", "section 5 | |", "section 5 | | a", "section 5 | a |", "section 5 | a | b", "section 5: a | b | c", "section 5: a |b", "section 5 | |a", "section 5 |a", "section 5: |a", "section 5: a |",
		`section 5: \`, `section 5 | \`, `section 5: \a`, `section 5 | \a`, `section 5 | a \`, `section 5: \ | a`, `section 5: a \b c`, `section 5 \| a`, `section 5\: a`, `\section 5`, `section \5`,
		`section 5 | ` + strings.Repeat(`\`, 26), `section 5 | \|` + strings.Repeat("a", 24), `section 5: \` + strings.Repeat("|", 25), `section 5 | a` + strings.Repeat(`\`, 24),
	} {
		expectBadLine(t, s)
	}
}

func TestNumberOfWords(t *testing.T) {
	many := func(n int) string { return strings.TrimSuffix(strings.Repeat("a ", n), " ") }
	for _, n := range []int{1, 2, 255, 256} {
		expectLine(t, unitOf(api.Section, "5", many(n), ""), 0, "section 5: "+many(n))
		expectLine(t, unitOf(api.Section, "5", "", many(n)), 0, "section 5 | "+many(n))
		expectLine(t, unitOf(api.Section, "5", many(n), many(n)), 8, strings.Repeat(" ", 16)+"section 5: "+many(n)+" | "+many(n))
		expectTree(t, unitOf(api.Section, "5", many(n), many(n)), "section 5: "+many(n)+" | "+many(n)+"\n")
	}
	for _, n := range []int{257, 258, 1000, 1 << 16} {
		for _, u := range []api.Unit{unitOf(api.Section, "5", many(n), ""), unitOf(api.Section, "5", "", many(n)), unitOf(api.Section, "5", many(n), many(n)), unitOf(api.Section, "5", many(n), "a"), unitOf(api.Section, "5", "a", many(n))} {
			if plaintext.FormatLine(u, 0) != "" || len(plaintext.Lines(u)) != 0 {
				t.Error(n)
			}
		}
		for _, s := range []string{"section 5: " + many(n), "section 5 | " + many(n), "section 5: " + many(n) + " | a", "section 5: a | " + many(n)} {
			expectBadLine(t, s)
		}
	}
}

func TestColonsAndBars(t *testing.T) {
	for _, s := range []string{
		"section 5:", "section 5: ", "section 5:  ", "section 5: |", "section 5 |", "section 5 | ", "section 5 |  ", "section 5: a |", "section 5: a | ", "section 5: | a", "section 5:| a", "section 5:: a", "section 5 : a", "section 5 :", "section 5:a", "section 5:a | b", "section 5| a", "section 5 || a", "section 5 a", "section 5 a b", "section 5 a: b", "section 5: a| b | ", "section: 5", "section | 5", "section : a", "section :a", ": a", "| a", " | a", "|", ":", "section 5 | a: b |",
	} {
		expectBadLine(t, s)
	}
	expectLine(t, unitOf(api.Section, "5", "", "a:"), 0, "section 5 | a:")
	expectLine(t, unitOf(api.Section, "5", "a:", "b: c"), 0, "section 5: a: | b: c")
	expectLine(t, unitOf(api.Section, "5", "", ": :"), 0, "section 5 | : :")
	expectLine(t, unitOf(api.Section, "5", ": a| b", ":"), 0, "section 5: : a| b | :")
	expectLine(t, unitOf(api.Section, "5", "section 6:", "section 7: a"), 0, "section 5: section 6: | section 7: a")
}

// TestSpaces has one space too many and one too few at every place of a line.
func TestSpaces(t *testing.T) {
	for _, line := range []string{"book", "  book", "section 5", "  section 5", "section 5: a b", "section 5 | a b", `    section 5: \| b | c \\ d`, "                cell 7: a | b"} {
		if !checkParseLine(t, line) {
			t.Errorf("%q", line)
		}
		for i := range len(line) + 1 {
			expectOther(t, line, line[:i]+" "+line[i:])
			if i < len(line) && line[i] == ' ' {
				expectOther(t, line, line[:i]+line[i+1:])
			}
		}
		expectBadLine(t, " "+line)
		expectBadLine(t, line+" ")
		expectBadLine(t, line+"  ")
	}
}

// expectOther expects that a changed line is not valid, or that it is valid for another unit or depth.
func expectOther(t *testing.T, line, changed string) {
	t.Helper()
	if !checkParseLine(t, changed) {
		return
	}
	u, depth, _ := plaintext.ParseLine(line)
	x, n, _ := plaintext.ParseLine(changed)
	if depth == n && unit.Equal(u, x) {
		t.Errorf("%q and %q describe one unit", line, changed)
	}
}

// TestChangedLines changes, inserts and removes each byte of some lines.
func TestChangedLines(t *testing.T) {
	valid := 0
	for _, line := range []string{"book", "  book", "section 5", "section 9999ZZZ", `  paragraph 1A: a \| | b \\ : c`, "cell 12: x: | y", "note 1: " + strings.Repeat("a", 24)} {
		for i := range len(line) + 1 {
			for b := range 256 {
				if checkParseLine(t, line[:i]+string([]byte{byte(b)})+line[i:]) {
					valid++
				}
				if i < len(line) && checkParseLine(t, line[:i]+string([]byte{byte(b)})+line[i+1:]) {
					valid++
				}
			}
			if i < len(line) {
				checkParseLine(t, line[:i]+line[i+1:])
			}
		}
	}
	if valid < 1000 {
		t.Error(valid)
	}
}

// TestAllShortLines compares with the model all short lines of some pieces.
func TestAllShortLines(t *testing.T) {
	valid := 0
	for _, c := range []struct {
		start  string
		pieces []string
		n      int
	}{
		{"", []string{" ", "book", "row", "5", ":", "|", "a"}, 5},
		{"section 5", []string{" ", ":", "|", `\`, "a", "5"}, 6},
		{"section 5: a", []string{" ", ":", "|", `\`, "a"}, 6},
	} {
		lines := []string{c.start}
		for range c.n {
			var longer []string
			for _, s := range lines {
				for _, piece := range c.pieces {
					longer = append(longer, s+piece)
				}
			}
			lines = longer
			for _, s := range lines {
				if checkParseLine(t, s) {
					valid++
				}
			}
		}
	}
	if valid < 1000 {
		t.Error(valid)
	}
}

// TestLineIgnoresTheRest gives units whose IDs, marks and children do not matter, valid or not.
func TestLineIgnoresTheRest(t *testing.T) {
	u := unitOf(api.Section, "5", "a", "b")
	for _, id := range []api.Id{{}, {Act: 1}, {Act: -1, Item: -2, N: -3}, {N: math.MaxInt}} {
		u.Id = id
		u.Head[0].By = api.Mark{Act: id.Act, Item: id.Item, At: id.N}
		u.Words[0].By = api.Mark{Act: id.N, At: -7}
		for _, kids := range [][]api.Unit{nil, {plain(api.Book, "x")}, numbered(api.Para, 65), {plain(99, "")}, {plain(api.Para, "1"), plain(api.Para, "1")}, {chain(paras(9)...)}, {grid(1024)}} {
			u.Kids = kids
			expectLine(t, u, 1, "  section 5: a | b")
			book := api.Unit{Id: id, Kids: kids}
			expectLine(t, book, 0, "book")
		}
	}
}

// P11.1: Format and Lines

func TestFormatAllKinds(t *testing.T) {
	for parent := -1; parent <= 8; parent++ {
		for kind := -1; kind <= 8; kind++ {
			want := api.ErrArg
			if slices.Contains(allowed[parent], kind) {
				want = api.OK
			}
			if errno := checkTree(t, rooted(parent, rooted(kind))); errno != want {
				t.Error(parent, kind, errno)
			}
		}
	}
	for kind := range names {
		if errno := checkTree(t, rooted(kind)); errno != api.OK {
			t.Error(kind, errno)
		}
	}
}

// TestFormatInvalid has trees that are not valid, in the root, below it, and in a leaf.
func TestFormatInvalid(t *testing.T) {
	for i, u := range []api.Unit{
		plain(99, "1"), plain(-1, ""), plain(api.Section, ""), plain(api.Section, "0"), plain(api.Book, "1"), unitOf(api.Section, "1", "a  b", ""), unitOf(api.Section, "1", "", "a\x01"),
		plain(api.Section, "1", plain(api.Para, "1"), plain(api.Para, "1")), plain(api.Section, "1", plain(api.Para, "1"), plain(api.Note, "1"), plain(api.Para, "1")),
		plain(api.Section, "1", numbered(api.Para, 65)...), plain(api.Section, "1", plain(api.Section, "2")), plain(api.Section, "1", api.Unit{}),
		chain(paras(10)...),
	} {
		if errno := checkTree(t, u); errno != api.ErrArg {
			t.Error(i, errno)
		}
		if errno := checkTree(t, plain(api.Part, "1", plain(api.Section, "7"), u)); errno != api.ErrArg {
			t.Error(i, errno, "in a part")
		}
		if errno := checkTree(t, plain(api.Book, "", plain(api.Part, "1", u), plain(api.Section, "1"))); errno != api.ErrArg {
			t.Error(i, errno, "in a book")
		}
	}
	for i, u := range []api.Unit{
		plain(api.Section, "1", plain(api.Para, "1"), plain(api.Note, "1"), plain(api.Table, "1"), plain(api.Para, "2")),
		plain(api.Book, "", plain(api.Part, "1", plain(api.Section, "1")), plain(api.Part, "2", plain(api.Section, "1")), plain(api.Section, "1")),
		plain(api.Section, "1", numbered(api.Para, 64)...),
	} {
		if errno := checkTree(t, u); errno != api.OK {
			t.Error(i, errno)
		}
	}
}

func TestFormatDepth(t *testing.T) {
	for _, c := range []struct {
		u    api.Unit
		want api.Errno
	}{ // nine units, one in the other, have the depth 8
		{chain(paras(9)...), api.OK}, {chain(paras(10)...), api.ErrArg}, {chain(paras(6, api.Book, api.Part, api.Section)...), api.OK}, {chain(paras(7, api.Book, api.Part, api.Section)...), api.ErrArg},
		{chain(append(paras(6, api.Section), api.Table)...), api.OK}, {chain(append(paras(6, api.Section), api.Table, api.Row)...), api.OK}, {chain(append(paras(6, api.Section), api.Table, api.Row, api.Cell)...), api.ErrArg},
	} {
		if errno := checkTree(t, c.u); errno != c.want {
			t.Error(unit.Depth(c.u), errno, c.want)
		}
	}
}

func TestFormatNumberOfUnits(t *testing.T) {
	for n, want := range map[int]api.Errno{1: api.OK, 2: api.OK, 65: api.OK, 1023: api.OK, 1024: api.OK, 1025: api.ErrArg, 1026: api.ErrArg} {
		u := grid(n)
		if errno := checkTree(t, u); errno != want || unit.Count(u) != n {
			t.Error(n, errno)
		}
	}
}

// TestFormatIDs has trees that are valid only after their IDs and marks are removed.
func TestFormatIDs(t *testing.T) {
	want := sample()
	text := textOf(want)
	change := func(change func(i int, u *api.Unit)) {
		t.Helper()
		u := copyOf(want)
		for i, x := range nodes(&u) {
			change(i, x)
		}
		if got, errno := plaintext.Format(u); got != text || errno != api.OK {
			t.Errorf("%q %v", got, errno)
		}
		if got := plaintext.Lines(u); strings.Join(got, "\n")+"\n" != text {
			t.Errorf("%q", got)
		}
		checkTree(t, u)
	}
	change(func(i int, u *api.Unit) { *u = withoutIDs(*u) })
	change(func(i int, u *api.Unit) { u.Id = api.Id{Act: 1, Item: 2, N: 3} })
	change(func(i int, u *api.Unit) { u.Id = api.Id{Act: 1, N: i + 1} }) // the book has an ID
	change(func(i int, u *api.Unit) { u.Id = api.Id{Act: 1, N: i / 2} })
	change(func(i int, u *api.Unit) { u.Id = api.Id{Act: -i, Item: -1, N: math.MinInt} })
	change(func(i int, u *api.Unit) {
		for k := range u.Words {
			u.Words[k].By = api.Mark{Act: -1, At: -k}
		}
	})
	u := plain(api.Section, "1", plain(api.Para, "1"))
	u.Kids[0].Id = api.Id{Act: 1, N: 1}
	if unit.Valid(u) {
		t.Error("valid")
	}
	expectTree(t, u, "section 1\n  paragraph 1\n")
}

// withoutIDs returns the unit with its children, but without its own ID and marks.
func withoutIDs(u api.Unit) api.Unit {
	x := alone(u)
	x.Kids = u.Kids
	return x
}

// longTree returns a tree whose text has the given length.
func longTree(length int) api.Unit {
	const most = 6000 // bytes of further words in a paragraph; each has a space in front of it
	u := plain(api.Section, "1", numbered(api.Para, length/most+1)...)
	for i := range u.Kids {
		u.Kids[i].Words = words("w")
	}
	left := length - len(textOf(u))
	for i := range u.Kids {
		for n := min(left, most); n > 0; {
			size := min(n, 25)
			if left-size == 1 { // a space alone
				size--
			}
			u.Kids[i].Words = append(u.Kids[i].Words, api.Word{Text: strings.Repeat("w", size-1)})
			n -= size
			left -= size
		}
	}
	return u
}

func TestFormatLength(t *testing.T) {
	for n, want := range map[int]api.Errno{100: api.OK, 10000: api.OK, maxText - 1: api.OK, maxText: api.OK, maxText + 1: api.ErrFull, maxText + 2: api.ErrFull, 20000: api.ErrFull, 100000: api.ErrFull} {
		u := longTree(n)
		if len(textOf(u)) != n {
			t.Fatal(n, len(textOf(u)))
		}
		if errno := checkTree(t, u); errno != want {
			t.Error(n, errno)
		}
		text, _ := plaintext.Format(u)
		if want == api.OK && len(text) != n || want != api.OK && text != "" {
			t.Error(n, len(text))
		}
		if len(plaintext.Lines(u)) != unit.Count(u) {
			t.Error(n, "Lines")
		}
	}
	// A tree that cannot be formatted, however long it is.
	u := longTree(20000)
	u.Kids[0].Label = "2"
	if errno := checkTree(t, u); errno != api.ErrArg {
		t.Error(errno)
	}
}

// P11.2: Parse

func TestParseForm(t *testing.T) {
	for _, c := range []struct {
		s string
		n int
	}{
		{"", 0}, {"\n", 0}, {"\n\n", 0}, {" ", 0}, {" \n", 0}, {"book", 0}, {"section 5", 0}, {"section 5: a | b", 0}, {"book\n\n", 1}, {"book\n ", 1}, {"book\n  ", 1}, {"book\n  \n", 1}, {"book\n  section 5", 1}, {"book\n  section 5\n\n", 2}, {"book\n\n  section 5\n", 1}, {"\nbook\n", 0}, {"book\n  section 5\n    paragraph 1\n    note 0\n", 3},
		{"book\r\n", 0}, {"book\n  section 5\r\n", 1}, {"book\n section 5\n", 1}, {"book\n   section 5\n", 1}, {"book\n\tsection 5\n", 1}, {"book \n", 0}, {"book\n  section 5 \n", 1}, {"book\x00", 0}, {"book\n\x00", 1}, {"book\v", 0}, {"book\u2028", 0}, {"book\n  section 5\r", 1},
		{strings.Repeat("\n", maxText), 0}, {strings.Repeat(" ", maxText), 0},
	} {
		expectError(t, c.s, c.n, api.ErrForm)
	}
}

func TestParseText(t *testing.T) {
	expectTree(t, plain(api.Section, "5"), "section 5\n")
	expectTree(t, plain(api.Book, "", plain(api.Section, "5"), plain(api.Part, "5")), "book\n  section 5\n  part 5\n")
	expectTree(t, plain(api.Section, "1", plain(api.Para, "1", plain(api.Para, "1", plain(api.Note, "1"))), plain(api.Note, "1")), "section 1\n  paragraph 1\n    paragraph 1\n      note 1\n  note 1\n")
	expectTree(t, chain(paras(9)...), "paragraph 1\n  paragraph 1\n    paragraph 1\n      paragraph 1\n        paragraph 1\n          paragraph 1\n            paragraph 1\n              paragraph 1\n                paragraph 1\n")
}

func TestParseLength(t *testing.T) {
	for _, n := range []int{maxText - 1, maxText} {
		u := longTree(n)
		expectTree(t, u, textOf(u))
	}
	for _, n := range []int{maxText + 1, maxText + 2, 1 << 15} {
		u := longTree(n)
		expectError(t, textOf(u), 0, api.ErrFull)
		// The length comes before every error of a line.
		for _, s := range []string{"x", "\n", " ", "book\nbook\n", "  section 1\n", "book\n    section 1\n", "section 1\n  section 1\n", "section 1\n  note 1\n  note 1\n"} {
			expectError(t, s+strings.Repeat(" ", n-len(s)), 0, api.ErrFull)
			expectError(t, s+strings.Repeat("\n", n-len(s)), 0, api.ErrFull)
		}
	}
	for _, s := range []string{"x", "\n", " "} {
		expectError(t, s+strings.Repeat(" ", maxText-len(s)), 0, api.ErrForm)
	}
}

func TestParseRange(t *testing.T) {
	for _, c := range []struct {
		s string
		n int
	}{
		{"  book\n", 0}, {"  section 1\n", 0}, {"    section 1\n", 0}, {"                section 1\n", 0}, {"  section 1\n  paragraph 1\n", 0},
		{"book\nsection 1\n", 1}, {"section 1\nparagraph 1\n", 1}, {"book\nbook\n", 1}, {"book\n  section 1\nsection 2\n", 2}, {"section 1\nsection 1\n", 1},
		{"book\n    section 1\n", 1}, {"book\n      section 1\n", 1}, {"book\n                section 1\n", 1}, {"book\n  section 1\n      paragraph 1\n", 2}, {"book\n  section 1\n    paragraph 1\n  section 2\n      paragraph 1\n", 4}, {"book\n  section 1\n        paragraph 1\n", 2},
		{"section 1\n  paragraph 1\n    paragraph 1\n      paragraph 1\n  paragraph 2\n      paragraph 1\n", 5},
	} {
		expectError(t, c.s, c.n, api.ErrRange)
	}
	expectTree(t, plain(api.Section, "1", chain(paras(4)...), plain(api.Para, "2", plain(api.Note, "1"))), "section 1\n  paragraph 1\n    paragraph 1\n      paragraph 1\n        paragraph 1\n  paragraph 2\n    note 1\n")
	// A depth that is out of range for every line is an error of form.
	expectError(t, "book\n                  section 1\n", 1, api.ErrForm)
	expectError(t, "                  book\n", 0, api.ErrForm)
}

func TestParseKind(t *testing.T) {
	for parent := range names {
		for kind := range names {
			text := lineOf(rooted(parent), 0) + "\n" + lineOf(rooted(kind), 1) + "\n"
			if slices.Contains(allowed[parent], kind) {
				expectTree(t, rooted(parent, rooted(kind)), text)
			} else {
				expectError(t, text, 1, api.ErrKind)
			}
		}
	}
	for _, c := range []struct {
		s string
		n int
	}{
		{"book\n  book\n", 1}, {"book\n  section 1\n    book\n", 2}, {"book\n  part 1\n    book\n", 2}, {"book\n  part 1\n  book\n", 2}, {"book\n  part 1\n    section 1\n      paragraph 1\n        section 2\n", 4}, {"book\n  section 1\n  paragraph 1\n", 2}, {"table 1\n  row 1\n    cell 1\n      note 1\n", 3}, {"table 1\n  row 1\n    cell 1\n  cell 1\n", 3},
	} {
		expectError(t, c.s, c.n, api.ErrKind)
	}
}

func TestParseDuplicateLabel(t *testing.T) {
	for _, c := range []struct {
		s string
		n int
	}{
		{"book\n  section 1\n  section 1\n", 2}, {"book\n  part 1\n  section 1\n  part 1\n", 3}, {"book\n  section 1\n    paragraph 1\n      note 1\n  section 2\n  section 1\n", 5}, {"section 1\n  note 1\n  paragraph 1\n  note 1\n", 3}, {"section 1: a\n  note 1: b\n  note 1 | c\n", 2}, {"table 1\n  row 1\n    cell 9A\n    cell 9\n    cell 9A\n", 4}, {"section 1\n  paragraph 1\n    paragraph 1\n    paragraph 1\n", 3},
	} {
		expectError(t, c.s, c.n, api.ErrDuplicateLabel)
	}
	expectTree(t, plain(api.Section, "1", plain(api.Note, "1"), plain(api.Para, "1"), plain(api.Table, "1")), "section 1\n  note 1\n  paragraph 1\n  table 1\n")
	expectTree(t, plain(api.Section, "1", plain(api.Para, "1", plain(api.Note, "1")), plain(api.Para, "2", plain(api.Note, "1")), plain(api.Note, "1")), "section 1\n  paragraph 1\n    note 1\n  paragraph 2\n    note 1\n  note 1\n")
	expectTree(t, plain(api.Section, "1", plain(api.Note, "1"), plain(api.Note, "1A"), plain(api.Note, "11")), "section 1\n  note 1\n  note 1A\n  note 11\n")
}

func TestParseFull(t *testing.T) {
	kids := textOf(plain(api.Section, "1", numbered(api.Para, 64)...))
	expectTree(t, plain(api.Section, "1", numbered(api.Para, 64)...), kids)
	expectError(t, kids+"  paragraph 65\n", 65, api.ErrFull)
	expectError(t, kids+"  note 1\n", 65, api.ErrFull)
	mixed := plain(api.Section, "1", append(numbered(api.Note, 32), numbered(api.Para, 32)...)...)
	expectTree(t, mixed, textOf(mixed))
	expectError(t, textOf(mixed)+"  table 1\n", 65, api.ErrFull)
	if _, n, errno := plaintext.Parse(kids + "    note 1\n"); n != 66 || errno != api.OK { // in paragraph 64
		t.Error(n, errno)
	}
	units := textOf(grid(1024))
	expectTree(t, grid(1024), units)
	expectError(t, units+"  row 60\n", 1024, api.ErrFull)
	expectError(t, units+"    cell 63A\n", 1024, api.ErrFull)
	expectError(t, textOf(grid(1025)), 1024, api.ErrFull)
	expectError(t, textOf(grid(1100)), 1024, api.ErrFull)
}

// TestParseFirstError has lines to which several errors apply.
func TestParseFirstError(t *testing.T) {
	kids := textOf(plain(api.Section, "1", numbered(api.Para, 64)...))
	units := textOf(grid(1024)) // the last row has room for cells
	for _, c := range []struct {
		s     string
		n     int
		errno api.Errno
	}{
		// Form before range, kind, duplicate labels and full lists.
		{"  book", 0, api.ErrForm}, {"  section 0\n", 0, api.ErrForm}, {"book\nsection 1", 1, api.ErrForm}, {"book\n    section 1", 1, api.ErrForm}, {"book\n    section 0\n", 1, api.ErrForm}, {"section 1\n\n", 1, api.ErrForm},
		{"book\n  book", 1, api.ErrForm}, {"book\n  note 1", 1, api.ErrForm}, {"book\n  note 1:\n", 1, api.ErrForm}, {"book\n  book 1\n", 1, api.ErrForm},
		{"section 1\n  note 1\n  note 1", 2, api.ErrForm}, {"section 1\n  note 1\n  note 1 \n", 2, api.ErrForm},
		{kids + "  paragraph 65", 65, api.ErrForm}, {kids + "  paragraph 65 |\n", 65, api.ErrForm}, {units + "  row 60", 1024, api.ErrForm}, {units + "  row 060\n", 1024, api.ErrForm}, {units + "\n", 1024, api.ErrForm},
		// Range before kind and full lists. A line out of range has no parent that could contain its label.
		{"book\nbook\n", 1, api.ErrRange}, {"book\n    book\n", 1, api.ErrRange}, {"section 1\nbook\n", 1, api.ErrRange}, {"section 1\n    section 1\n", 1, api.ErrRange}, {"section 1\n      book\n", 1, api.ErrRange}, {"section 1\nsection 1\n", 1, api.ErrRange},
		{units + "table 2\n", 1024, api.ErrRange}, {units + "book\n", 1024, api.ErrRange}, {units + "        note 1\n", 1024, api.ErrRange}, {units + "          book\n", 1024, api.ErrRange}, {kids + "paragraph 65\n", 65, api.ErrRange}, {kids + "      paragraph 65\n", 65, api.ErrRange},
		// Kind before full lists. Of a kind that cannot occur there is no sibling with the same label.
		{kids + "  section 1\n", 65, api.ErrKind}, {kids + "  book\n", 65, api.ErrKind}, {units + "  cell 1\n", 1024, api.ErrKind}, {units + "    row 1\n", 1024, api.ErrKind}, {units + "      book\n", 1024, api.ErrKind}, {units + "      note 1\n", 1024, api.ErrKind}, {units + "  book\n", 1024, api.ErrKind},
		// Duplicate labels before full lists.
		{kids + "  paragraph 1\n", 65, api.ErrDuplicateLabel}, {kids + "  paragraph 64\n", 65, api.ErrDuplicateLabel}, {units + "  row 1\n", 1024, api.ErrDuplicateLabel}, {units + "    cell 1\n", 1024, api.ErrDuplicateLabel},
	} {
		expectError(t, c.s, c.n, c.errno)
	}
	if r := grid(1024).Kids; len(r[len(r)-1].Kids) >= 64 {
		t.Error("the last row has no room")
	}
}

// TestParseFirstLine has errors in several lines.
func TestParseFirstLine(t *testing.T) {
	full := textOf(plain(api.Section, "1", numbered(api.Para, 64)...))
	errors := []struct {
		line  string // below the last paragraph of the section
		errno api.Errno
	}{{"  note 0\n", api.ErrForm}, {"\n", api.ErrForm}, {"note 1\n", api.ErrRange}, {"      note 1\n", api.ErrRange}, {"  book\n", api.ErrKind}, {"  paragraph 1\n", api.ErrDuplicateLabel}, {"  note 1\n", api.ErrFull}}
	for _, a := range errors {
		for _, b := range errors {
			expectError(t, full+a.line+b.line, 65, a.errno)
			expectError(t, full+a.line+"    note 1\n"+b.line, 65, a.errno)
			expectError(t, full+a.line+b.line+"unfinished", 65, a.errno)
		}
	}
}

// P11.3: random trees and texts

// randomWords returns up to n words.
func randomWords(r *rand.Rand, n int) []api.Word {
	var l []api.Word
	for range r.Intn(n + 1) {
		text := ""
		for range 1 + r.Intn(3) {
			text += []string{"|", `\`, ":", "a", "b", "5", "~", "!", "section"}[r.Intn(9)]
		}
		l = append(l, api.Word{Text: text, By: api.Mark{Act: r.Intn(3), Item: r.Intn(3), At: r.Intn(3)}})
	}
	return l
}

// randomTree returns a tree of the kind that can be formatted, with at most the depth.
func randomTree(r *rand.Rand, kind, depth int) api.Unit {
	u := rooted(kind)
	u.Id = api.Id{Act: r.Intn(3), Item: r.Intn(3), N: r.Intn(3)}
	if kind != api.Book {
		u.Head, u.Words = randomWords(r, 3), randomWords(r, 4)
	}
	if depth == 0 || len(allowed[kind]) == 0 {
		return u
	}
	for i := range r.Intn(4) {
		kid := randomTree(r, allowed[kind][r.Intn(len(allowed[kind]))], depth-1)
		kid.Label = fmt.Sprint(1+r.Intn(2)) + []string{"", "B", "ZZZ"}[r.Intn(3)]
		if slices.ContainsFunc(u.Kids, func(x api.Unit) bool { return x.Kind == kid.Kind && x.Label == kid.Label }) {
			kid.Label = fmt.Sprint(i + 3)
		}
		u.Kids = append(u.Kids, kid)
	}
	return u
}

// damage changes something in a unit of the tree.
func damage(r *rand.Rand, u *api.Unit) {
	l := nodes(u)
	x := l[r.Intn(len(l))]
	switch r.Intn(7) {
	case 0:
		x.Kind = r.Intn(10) - 1
	case 1:
		x.Label = []string{"", "0", "1", "1B", "8", "1a"}[r.Intn(6)]
	case 2:
		x.Head = append(x.Head, api.Word{Text: []string{"", "a b", "|", "\x80"}[r.Intn(4)]})
	case 3:
		x.Words = append(x.Words, api.Word{Text: []string{"", "a ", "a", "\x7f"}[r.Intn(4)]})
	case 4:
		x.Kids = append(x.Kids, copyOf(*l[r.Intn(len(l))]))
	case 5:
		x.Words = slices.Repeat(words("a"), 256+r.Intn(2))
	case 6:
		x.Kids = append(x.Kids, numbered(api.Para, 63+r.Intn(3))...)
	}
}

func TestRandomTrees(t *testing.T) {
	r := rand.New(rand.NewSource(1))
	damaged := map[api.Errno]int{}
	for i := range 5000 {
		u := randomTree(r, i%len(names), 1+r.Intn(maxDepth))
		if errno := checkTree(t, u); errno != api.OK && len(textOf(u)) <= maxText {
			t.Fatal(errno)
		}
		x := copyOf(u)
		for _, y := range nodes(&x) {
			y.Id = api.Id{Act: r.Int()}
		}
		a, _ := plaintext.Format(u)
		if b, _ := plaintext.Format(x); a != b {
			t.Fatalf("%q %q", a, b)
		}
		damage(r, &x)
		damaged[checkTree(t, x)]++
	}
	if damaged[api.OK] < 100 || damaged[api.ErrArg] < 100 {
		t.Error(damaged)
	}
}

// TestEqualTexts expects that two trees have one text only if they are equal but for IDs and marks.
func TestEqualTexts(t *testing.T) {
	r := rand.New(rand.NewSource(2))
	seen := map[string]api.Unit{}
	again := 0
	for range 20000 {
		u := randomTree(r, api.Para, 1)
		text, errno := plaintext.Format(u)
		if errno != api.OK {
			t.Fatal(errno)
		}
		if x, ok := seen[text]; ok {
			again++
			if !unit.Equal(x, unit.Strip(u)) {
				t.Fatalf("%q", text)
			}
		}
		seen[text] = unit.Strip(u)
	}
	if again == 0 {
		t.Error("no text occurs again")
	}
}

// TestRandomTexts compares with the model texts whose lines are valid, but not always in their place.
func TestRandomTexts(t *testing.T) {
	r := rand.New(rand.NewSource(3))
	count := map[api.Errno]int{}
	for range 60000 {
		text, depth := "", -1
		for range 1 + r.Intn(6) {
			depth = max(0, min(1+r.Intn(2)*r.Intn(maxDepth), depth+1))
			u := rooted([]int{api.Section, api.Para, api.Para, api.Note, api.Table, api.Row, r.Intn(8)}[r.Intn(7)])
			if u.Kind != api.Book && r.Intn(3) == 0 {
				u.Label, u.Head, u.Words = fmt.Sprint(1+r.Intn(3)), randomWords(r, 1), randomWords(r, 1)
			}
			if r.Intn(12) == 0 {
				depth = r.Intn(4)
			}
			text += lineOf(u, depth) + "\n"
		}
		if r.Intn(8) == 0 {
			at := r.Intn(len(text))
			text = text[:at] + []string{"", " ", "\n", "|", "5"}[r.Intn(5)] + text[at+1:]
		}
		count[checkParse(t, text)]++
	}
	for _, errno := range []api.Errno{api.OK, api.ErrForm, api.ErrRange, api.ErrKind, api.ErrDuplicateLabel} {
		if count[errno] < 500 {
			t.Error(errno, count[errno])
		}
	}
}

// TestChangedTexts changes, inserts and removes bytes and lines of a text.
func TestChangedTexts(t *testing.T) {
	text := textOf(sample())
	for i := range len(text) {
		checkParse(t, text[:i])
		checkParse(t, text[i:])
		checkParse(t, text[:i]+text[i+1:])
		for _, s := range []string{" ", "  ", "\n", "|", `\`, ":", "1", "A", "0", "\x00"} {
			checkParse(t, text[:i]+s+text[i:])
			checkParse(t, text[:i]+s+text[i+1:])
		}
	}
	lines := strings.SplitAfter(strings.TrimSuffix(text, "\n"), "\n")
	lines[len(lines)-1] += "\n"
	for i := range lines {
		checkParse(t, strings.Join(slices.Delete(slices.Clone(lines), i, i+1), ""))
		for k := range lines {
			swapped := slices.Clone(lines)
			swapped[i], swapped[k] = swapped[k], swapped[i]
			checkParse(t, strings.Join(swapped, ""))
			checkParse(t, strings.Join(slices.Insert(slices.Clone(lines), i, lines[k]), ""))
		}
	}
}

// P1

// TestHugeTrees gives a tree with 2^16 levels, wide ones, and long labels and words to every function.
func TestHugeTrees(t *testing.T) {
	deep := plain(api.Para, "1")
	for range 1 << 16 {
		deep = plain(api.Para, "1", deep)
	}
	wide := plain(api.Section, "1", slices.Repeat([]api.Unit{unitOf(api.Para, "1", "a", "b")}, 1<<17)...)
	for i, u := range []api.Unit{deep, wide, plain(api.Section, strings.Repeat("1", 1<<20)), {Kind: api.Section, Label: "1", Words: slices.Repeat(words("a"), 1<<20)}, unitOf(api.Section, "1", strings.Repeat("a", 1<<20), "")} {
		text, errno := plaintext.Format(u)
		if text != "" || errno != api.ErrArg || len(plaintext.Lines(u)) != 0 {
			t.Error(i, errno)
		}
		line := plaintext.FormatLine(u, 1)
		if i < 2 && line != "  "+names[u.Kind]+" 1" || i >= 2 && line != "" {
			t.Error(i, len(line))
		}
	}
	largest := grid(1024)
	for _, x := range nodes(&largest) {
		x.Head, x.Words = slices.Repeat(words(strings.Repeat("|", 24)), 256), slices.Repeat(words(strings.Repeat("|", 24)), 256)
	}
	text, errno := plaintext.Format(largest)
	lines := plaintext.Lines(largest)
	if text != "" || errno != api.ErrFull || len(lines) != 1024 || lines[1023] != lineOf(largest.Kids[15].Kids[61], 2) {
		t.Error(errno, len(lines))
	}
}

func TestHugeStrings(t *testing.T) {
	for i, s := range []string{strings.Repeat(" ", 1<<20), strings.Repeat("a", 1<<20), strings.Repeat("section 1\n", 1<<17), "section 1: " + strings.Repeat("a ", 1<<20) + "a", "section 1" + strings.Repeat(" |", 1<<20), "section 1 | " + strings.Repeat(`\`, 1<<20), "section 1 | " + strings.Repeat(`\| `, 1<<20)} {
		if u, n, errno := plaintext.ParseLine(s); errno != api.ErrForm || n != 0 || !isZero(u) {
			t.Error(i, n, errno)
		}
		if u, n, errno := plaintext.Parse(s); errno != api.ErrFull || n != 0 || !isZero(u) {
			t.Error(i, n, errno)
		}
	}
}

// Arguments and memory

// spoil overwrites everything in a tree, up to the capacities.
func spoil(u api.Unit) {
	spoilWords(u.Head)
	spoilWords(u.Words)
	kids := u.Kids[:cap(u.Kids)]
	for i := range kids {
		spoil(kids[i])
		kids[i] = api.Unit{Label: "spoiled"}
	}
}

// spoilWords overwrites words up to the capacity.
func spoilWords(l []api.Word) {
	l = l[:cap(l)]
	for i := range l {
		l[i] = api.Word{Text: "spoiled"}
	}
}

// roomy returns a copy of the tree whose lists have spare capacity.
func roomy(u api.Unit) api.Unit {
	u.Head, u.Words = append(make([]api.Word, 0, len(u.Head)+3), u.Head...), append(make([]api.Word, 0, len(u.Words)+3), u.Words...)
	kids := make([]api.Unit, 0, len(u.Kids)+3)
	for _, kid := range u.Kids {
		kids = append(kids, roomy(kid))
	}
	u.Kids = kids
	return u
}

// unused reports whether the spare capacity of all lists of the tree is unused.
func unused(u api.Unit) bool {
	for _, l := range [][]api.Word{u.Head, u.Words} {
		if slices.ContainsFunc(l[len(l):cap(l)], func(w api.Word) bool { return w != api.Word{} }) {
			return false
		}
	}
	return !slices.ContainsFunc(u.Kids[len(u.Kids):cap(u.Kids)], func(kid api.Unit) bool { return !isZero(kid) }) && !slices.ContainsFunc(u.Kids, func(kid api.Unit) bool { return !unused(kid) })
}

func TestArgumentsAreNotModified(t *testing.T) {
	r := rand.New(rand.NewSource(4))
	for i := range 500 {
		want := randomTree(r, i%len(names), 4)
		if i%2 == 0 {
			damage(r, &want)
		}
		u := roomy(want)
		plaintext.Format(u)
		plaintext.Lines(u)
		plaintext.FormatLine(u, i%10)
		if !unit.Equal(u, want) || !unused(u) {
			t.Fatal("the argument is modified")
		}
	}
}

// TestLinesAreNew changes the lines, up to the capacity, and looks at the argument and at other lines.
func TestLinesAreNew(t *testing.T) {
	want := sample()
	u := roomy(want)
	one, two := plaintext.Lines(u), plaintext.Lines(u)
	clear(one[:cap(one)])
	if !unit.Equal(u, want) || !unused(u) {
		t.Error("shares memory with the argument")
	}
	spoil(u)
	if !slices.Equal(two, linesOf(want, 0)) || !slices.Equal(plaintext.Lines(want), two) {
		t.Error("keeps the argument, or shares memory with another result")
	}
}

// TestTreesAreNew changes parsed units and trees, up to the capacities, and looks at other results and at the rest of the same one.
func TestTreesAreNew(t *testing.T) {
	parse := func() api.Unit {
		u, _, _ := plaintext.Parse(textOf(sample()))
		return u
	}
	parseLine := func() api.Unit {
		u, _, _ := plaintext.ParseLine("  section 5: a b | c d e")
		return u
	}
	for _, c := range []struct {
		parse func() api.Unit
		want  api.Unit
	}{{parse, unit.Strip(sample())}, {parseLine, unit.Strip(unitOf(api.Section, "5", "a b", "c d e"))}} {
		one, two := c.parse(), c.parse()
		spoil(one)
		if !unit.Equal(two, c.want) || !unit.Equal(c.parse(), c.want) {
			t.Fatal("results share memory")
		}
		expectSeparateParts(t, two, c.want)
	}
}

// expectSeparateParts expects that no two lists of the tree, which is equal to want, share memory.
func expectSeparateParts(t *testing.T, u, want api.Unit) {
	t.Helper()
	wanted := nodes(&want)
	for i, x := range nodes(&u) {
		spoilWords(x.Head)
		if !slices.Equal(x.Words, wanted[i].Words) {
			t.Fatal(i, "a heading and words share memory")
		}
		copy(x.Head, wanted[i].Head)
		spoilWords(x.Words)
		copy(x.Words, wanted[i].Words)
		spare := x.Kids[len(x.Kids):cap(x.Kids)]
		for k := range spare {
			spare[k] = plain(api.Note, "77")
		}
		if !unit.Equal(u, want) {
			t.Fatal(i, "the parts of a result share memory")
		}
	}
}

// TestSharedParts gives a tree in which units, headings and words are one and the same in memory.
func TestSharedParts(t *testing.T) {
	l := words("a |")
	note := api.Unit{Kind: api.Note, Label: "1", Head: l, Words: l}
	kids := []api.Unit{note}
	u := api.Unit{Kind: api.Section, Label: "1", Head: l, Words: l, Kids: []api.Unit{{Kind: api.Para, Label: "1", Kids: kids}, {Kind: api.Para, Label: "2", Kids: kids}, note}}
	expectTree(t, u, `section 1: a \| | a \|
  paragraph 1
    note 1: a \| | a \|
  paragraph 2
    note 1: a \| | a \|
  note 1: a \| | a \|
`)
}
