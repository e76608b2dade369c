package table_test

import (
	"fmt"
	"math"
	"math/rand"
	"slices"
	"strings"
	"testing"

	"pandect/api"
	"pandect/table"
	"pandect/unit"
)

// someKinds are all kinds, and numbers that are not kinds.
var someKinds = []int{math.MinInt, -5, -1, api.Book, api.Part, api.Section, api.Para, api.Table, api.Row, api.Cell, api.Note, 8, 9, math.MaxInt}

// marked returns words with the texts and with marks of the act.
func marked(act int, texts ...string) []api.Word {
	var l []api.Word
	for i, s := range texts {
		l = append(l, api.Word{Text: s, By: api.Mark{Act: act, Item: 2, At: i}})
	}
	return l
}

// many returns n words.
func many(n int) []api.Word {
	var l []api.Word
	for i := range n {
		l = append(l, api.Word{Text: fmt.Sprint("w", i), By: api.Mark{Act: 4, At: i}})
	}
	return l
}

// anyWords are words to set where there is no cell: none, one, and too many.
var anyWords = [][]api.Word{nil, marked(1, "a"), many(257)}

// cell returns a cell whose words are the fields of the text.
func cell(text string) api.Unit {
	return api.Unit{Kind: api.Cell, Label: "1", Words: marked(1, strings.Fields(text)...)}
}

// row returns a row with cells of the texts.
func row(texts ...string) api.Unit {
	u := api.Unit{Kind: api.Row, Label: "1"}
	for _, s := range texts {
		u.Kids = append(u.Kids, cell(s))
	}
	return u
}

// tableOf returns a table with the rows, in which every unit has an ID, and siblings have different labels.
func tableOf(rows ...api.Unit) api.Unit {
	u := copyOf(api.Unit{Kind: api.Table, Label: "7", Kids: rows})
	for i, x := range nodes(&u) {
		x.Id = api.Id{Act: 1, Item: 3, N: i + 1}
		for k := range x.Kids {
			x.Kids[k].Label = fmt.Sprint(k + 1)
		}
	}
	return u
}

// size returns a table with so many rows and columns; the text of each cell tells its place.
func size(rows, columns int) api.Unit {
	var l []api.Unit
	for r := range rows {
		var texts []string
		for c := range columns {
			texts = append(texts, fmt.Sprint("r", r, " c", c))
		}
		l = append(l, row(texts...))
	}
	return tableOf(l...)
}

// column returns a table of one column with the texts.
func column(texts ...string) api.Unit {
	var l []api.Unit
	for _, s := range texts {
		l = append(l, row(s))
	}
	return tableOf(l...)
}

// rich returns a table with a heading and words in every unit, which the functions have to keep.
func rich(rows, columns int) api.Unit {
	u := size(rows, columns)
	for i, x := range nodes(&u) {
		x.Head = marked(i, "head", fmt.Sprint(i))
		x.Words = marked(-i, "text", fmt.Sprint(i%5))
	}
	return u
}

// copyOf returns a copy that shares nothing with u.
func copyOf(u api.Unit) api.Unit {
	u.Head, u.Words, u.Kids = slices.Clone(u.Head), slices.Clone(u.Words), slices.Clone(u.Kids)
	for i := range u.Kids {
		u.Kids[i] = copyOf(u.Kids[i])
	}
	return u
}

// nodes returns pointers to all units of a tree that shares nothing within itself, in document order.
func nodes(u *api.Unit) []*api.Unit {
	l := []*api.Unit{u}
	for i := range u.Kids {
		l = append(l, nodes(&u.Kids[i])...)
	}
	return l
}

// isZero reports whether the unit is the zero unit.
func isZero(u api.Unit) bool { return unit.Equal(u, api.Unit{}) }

// The model: it follows the definitions.

// isTable reports whether the table is valid.
func isTable(u api.Unit) bool {
	if u.Kind != api.Table || len(u.Kids) < 1 || len(u.Kids) > 64 {
		return false
	}
	for _, r := range u.Kids {
		if r.Kind != api.Row || len(r.Kids) < 1 || len(r.Kids) > 64 || len(r.Kids) != len(u.Kids[0].Kids) {
			return false
		}
		for _, c := range r.Kids {
			if c.Kind != api.Cell || len(c.Kids) > 0 {
				return false
			}
		}
	}
	return true
}

// textOf returns the text of a cell.
func textOf(u api.Unit) string {
	s := ""
	for i, w := range u.Words {
		if i > 0 {
			s += " "
		}
		s += w.Text
	}
	return s
}

// grid returns the texts of all cells of a valid table.
func grid(u api.Unit) [][]string {
	var out [][]string
	for _, r := range u.Kids {
		var l []string
		for _, c := range r.Kids {
			l = append(l, textOf(c))
		}
		out = append(out, l)
	}
	return out
}

// columnOf returns a column of the grid.
func columnOf(l [][]string, column int) []string {
	var out []string
	for _, texts := range l {
		out = append(out, texts[column])
	}
	return out
}

// widthsOf returns the widths of the columns of the grid.
func widthsOf(l [][]string) []int {
	out := make([]int, len(l[0]))
	for _, texts := range l {
		for c, s := range texts {
			if len(s) > out[c] {
				out[c] = len(s)
			}
		}
	}
	return out
}

// linesOf returns the lines of the grid.
func linesOf(l [][]string) []string {
	widths := widthsOf(l)
	var out []string
	for _, texts := range l {
		s := ""
		for c, text := range texts {
			s += text
			if c == len(texts)-1 {
				break
			}
			for range widths[c] - len(text) {
				s += " "
			}
			s += " | "
		}
		out = append(out, s)
	}
	return out
}

// sorted returns the table with its rows sorted: it takes the first one with the smallest text again and again.
func sorted(u api.Unit, column int) api.Unit {
	u = copyOf(u)
	left := u.Kids
	u.Kids = nil
	for len(left) > 0 {
		least := 0
		for i := range left {
			if textOf(left[i].Kids[column]) < textOf(left[least].Kids[column]) {
				least = i
			}
		}
		u.Kids = append(u.Kids, left[least])
		left = slices.Concat(left[:least], left[least+1:])
	}
	return u
}

// check compares all functions with the model, for all rows and columns and some beyond.
func check(t *testing.T, u api.Unit) {
	t.Helper()
	if table.Valid(u) != isTable(u) {
		t.Fatalf("Valid: %v", table.Valid(u))
	}
	if !isTable(u) {
		expectNothing(t, u)
		return
	}
	l := grid(u)
	rows, columns := len(l), len(l[0])
	if r, c := table.Size(u); r != rows || c != columns {
		t.Fatalf("Size: %d %d", r, c)
	}
	if got, want := table.ColumnWidths(u), widthsOf(l); !slices.Equal(got, want) {
		t.Errorf("ColumnWidths: %v, want %v", got, want)
	}
	if got, want := table.Format(u), linesOf(l); !slices.Equal(got, want) {
		t.Errorf("Format: %q, want %q", got, want)
	}
	for _, c := range beyond(columns) {
		if c >= 0 && c < columns {
			checkColumn(t, u, c)
		} else {
			expectNoColumn(t, u, c)
		}
		for _, r := range beyond(rows) {
			if c >= 0 && c < columns && r >= 0 && r < rows {
				checkCell(t, u, r, c)
			} else {
				expectNoCell(t, u, r, c)
			}
		}
	}
}

// beyond returns the indices of n things, and some that are too small or too great.
func beyond(n int) []int {
	l := []int{math.MinInt, -n, -1}
	for i := range n + 2 {
		l = append(l, i)
	}
	return append(l, 64, 65, math.MaxInt)
}

// checkColumn compares the functions of a column with the model.
func checkColumn(t *testing.T, u api.Unit, column int) {
	t.Helper()
	if got, want := table.Column(u, column), columnOf(grid(u), column); !slices.Equal(got, want) {
		t.Errorf("Column %d: %q, want %q", column, got, want)
	}
	if got, ok := table.SortByColumn(u, column); !ok || !unit.Equal(got, sorted(u, column)) {
		t.Errorf("SortByColumn %d: %v", column, ok)
	}
}

// checkCell compares the functions of a cell with the model.
func checkCell(t *testing.T, u api.Unit, row, column int) {
	t.Helper()
	if got, ok := table.Get(u, row, column); !ok || !slices.Equal(got, u.Kids[row].Kids[column].Words) {
		t.Errorf("Get %d %d: %v %v", row, column, got, ok)
	}
	l := marked(9, "set", "by", "a test")
	want := copyOf(u)
	want.Kids[row].Kids[column].Words = l
	if got, ok := table.Set(u, row, column, l...); !ok || !unit.Equal(got, want) {
		t.Errorf("Set %d %d: %v", row, column, ok)
	}
}

// expectNoColumn expects that the table has no such column.
func expectNoColumn(t *testing.T, u api.Unit, column int) {
	t.Helper()
	if got := table.Column(u, column); len(got) != 0 {
		t.Errorf("Column %d: %q", column, got)
	}
	if got, ok := table.SortByColumn(u, column); ok || !isZero(got) {
		t.Errorf("SortByColumn %d: %v", column, ok)
	}
}

// expectNoCell expects that the table has no such cell.
func expectNoCell(t *testing.T, u api.Unit, row, column int) {
	t.Helper()
	if got, ok := table.Get(u, row, column); ok || len(got) != 0 {
		t.Errorf("Get %d %d: %v %v", row, column, got, ok)
	}
	for _, l := range anyWords {
		if got, ok := table.Set(u, row, column, l...); ok || !isZero(got) {
			t.Errorf("Set %d %d: %v", row, column, ok)
		}
	}
}

// expectNothing expects the results for a table that is not valid.
func expectNothing(t *testing.T, u api.Unit) {
	t.Helper()
	if table.Valid(u) {
		t.Error("Valid")
	}
	if r, c := table.Size(u); r != 0 || c != 0 {
		t.Errorf("Size: %d %d", r, c)
	}
	if got := table.ColumnWidths(u); len(got) != 0 {
		t.Errorf("ColumnWidths: %v", got)
	}
	if got := table.Format(u); len(got) != 0 {
		t.Errorf("Format: %q", got)
	}
	for _, c := range []int{math.MinInt, -1, 0, 1, 2, 64, math.MaxInt} {
		expectNoColumn(t, u, c)
		for _, r := range []int{math.MinInt, -1, 0, 1, 2, 64, math.MaxInt} {
			expectNoCell(t, u, r, c)
		}
	}
}

// expectValid expects that the table is valid or not, and the results that follow.
func expectValid(t *testing.T, u api.Unit, want bool) {
	t.Helper()
	if table.Valid(u) != want || isTable(u) != want {
		t.Errorf("valid: %v, want %v", table.Valid(u), want)
	}
	if rows, columns := table.Size(u); want && (rows != len(u.Kids) || columns != len(u.Kids[0].Kids)) {
		t.Errorf("Size: %d %d", rows, columns)
	}
	if !want {
		expectNothing(t, u)
	}
}

// P9.1: Valid and Size

func TestValidExample(t *testing.T) {
	u := tableOf(row("a", "b b"), row("c", "d"))
	check(t, u)
	if rows, columns := table.Size(u); !table.Valid(u) || rows != 2 || columns != 2 {
		t.Error(table.Valid(u), rows, columns)
	}
	if rows, columns := table.Size(size(3, 5)); rows != 3 || columns != 5 {
		t.Error(rows, columns)
	}
}

func TestValidKind(t *testing.T) {
	for _, kind := range someKinds {
		u := size(2, 2)
		u.Kind = kind
		expectValid(t, u, kind == api.Table)
	}
	expectValid(t, api.Unit{}, false)
	expectValid(t, row("a", "b"), false)
	expectValid(t, cell("a"), false)
}

func TestValidNumberOfRows(t *testing.T) {
	for _, n := range []int{0, 1, 2, 3, 63, 64, 65, 66, 128, 1000} {
		expectValid(t, size(n, 1), n >= 1 && n <= 64)
		expectValid(t, size(n, 3), n >= 1 && n <= 64)
	}
	check(t, size(64, 2))
}

func TestValidNumberOfCells(t *testing.T) {
	for _, n := range []int{0, 1, 2, 3, 63, 64, 65, 66, 128, 1000} {
		for _, rows := range []int{1, 2, 5} {
			expectValid(t, size(rows, n), n >= 1 && n <= 64)
		}
	}
	expectValid(t, size(64, 64), true)
	check(t, size(2, 64))
}

// TestValidDifferentNumbers gives each row in turn another number of cells.
func TestValidDifferentNumbers(t *testing.T) {
	for _, columns := range []int{1, 2, 3, 63, 64} {
		for r := range 4 {
			for _, n := range []int{0, 1, columns - 1, columns, columns + 1, 65} {
				u := size(4, columns)
				u.Kids[r].Kids = size(1, n).Kids[0].Kids
				expectValid(t, u, n == columns)
			}
		}
	}
	// As many cells as two rows of two, and the same number in the first and the last row.
	expectValid(t, tableOf(row("a"), row("b", "c", "d")), false)
	expectValid(t, tableOf(row("a", "b"), row("c"), row("d", "e")), false)
}

// TestValidRowKinds gives each row in turn every kind.
func TestValidRowKinds(t *testing.T) {
	for r := range 3 {
		for _, kind := range someKinds {
			u := size(3, 2)
			u.Kids[r].Kind = kind
			expectValid(t, u, kind == api.Row)
		}
	}
}

// TestValidCellKinds gives each cell in turn every kind.
func TestValidCellKinds(t *testing.T) {
	for r := range 3 {
		for c := range 3 {
			for _, kind := range someKinds {
				u := size(3, 3)
				u.Kids[r].Kids[c].Kind = kind
				expectValid(t, u, kind == api.Cell)
			}
		}
	}
}

// TestValidCellKids gives each cell in turn kids.
func TestValidCellKids(t *testing.T) {
	for r := range 3 {
		for c := range 3 {
			for _, kind := range someKinds {
				u := size(3, 3)
				u.Kids[r].Kids[c].Kids = []api.Unit{{Kind: kind, Label: "1"}}
				expectValid(t, u, false)
			}
			u := size(3, 3)
			u.Kids[r].Kids[c].Kids = []api.Unit{}
			expectValid(t, u, true)
		}
	}
}

// TestNothingElseIsChecked gives tables what is not valid in the sense of other layers.
func TestNothingElseIsChecked(t *testing.T) {
	for _, label := range []string{"", "0", "x", "1"} {
		for _, id := range []api.Id{{}, {Act: -1, Item: math.MaxInt, N: 3}} {
			for _, l := range [][]api.Word{nil, many(300), marked(-1, "", "a b", "\x00\xff", strings.Repeat("w", 1000))} {
				u := size(2, 3)
				for _, x := range nodes(&u) {
					x.Label, x.Id, x.Head, x.Words = label, id, l, l
				}
				expectValid(t, u, true)
				check(t, u)
			}
		}
	}
}

// P9.1: Get

func TestGet(t *testing.T) {
	u := size(3, 4)
	for r := -2; r < 6; r++ {
		for c := -2; c < 7; c++ {
			got, ok := table.Get(u, r, c)
			want := r >= 0 && r < 3 && c >= 0 && c < 4
			if ok != want || want && !slices.Equal(got, marked(1, fmt.Sprint("r", r), fmt.Sprint("c", c))) || !want && len(got) != 0 {
				t.Error(r, c, got, ok)
			}
		}
	}
}

func TestGetWords(t *testing.T) {
	for _, l := range [][]api.Word{nil, {}, marked(3, "a"), marked(3, "a", "a"), many(256), many(257), marked(5, "", " ", "|")} {
		u := size(2, 2)
		u.Kids[1].Kids[0].Words = l
		u.Kids[1].Kids[0].Head = marked(8, "head")
		if got, ok := table.Get(u, 1, 0); !ok || !slices.Equal(got, l) {
			t.Error(got, ok)
		}
	}
}

// P9.2: Set

func TestSetEverywhere(t *testing.T) {
	for _, n := range [][2]int{{1, 1}, {1, 4}, {4, 1}, {3, 4}} {
		check(t, rich(n[0], n[1]))
	}
}

func TestSetNumberOfWords(t *testing.T) {
	u := rich(2, 3)
	for _, n := range []int{0, 1, 2, 255, 256, 257, 258, 1000, 1 << 16} {
		got, ok := table.Set(u, 1, 2, many(n)...)
		want := copyOf(u)
		want.Kids[1].Kids[2].Words = many(n)
		if n > 256 {
			want = api.Unit{}
		}
		if ok != (n <= 256) || !unit.Equal(got, want) {
			t.Error(n, ok)
		}
	}
	if got, ok := table.Set(u, 0, 0); !ok || len(got.Kids[0].Kids[0].Words) != 0 || len(got.Kids[0].Kids[0].Head) != 2 {
		t.Error(got, ok)
	}
}

// TestSetAnyWords sets words that are not valid in the sense of layer 4.
func TestSetAnyWords(t *testing.T) {
	for _, s := range []string{"", " ", "a b", "|", "é", "\x00\xff", strings.Repeat("w", 25)} {
		l := marked(6, s, s)
		u, ok := table.Set(size(2, 2), 0, 1, l...)
		if !ok || !slices.Equal(u.Kids[0].Kids[1].Words, l) || table.Column(u, 1)[0] != s+" "+s {
			t.Errorf("%q %v", s, ok)
		}
	}
}

// P9.3: Column, ColumnWidths and Format

// shape is a table with its widths and lines.
type shape struct {
	u      api.Unit
	widths []int
	lines  []string
}

func expectShape(t *testing.T, s shape) {
	t.Helper()
	check(t, s.u)
	if got := table.ColumnWidths(s.u); !slices.Equal(got, s.widths) {
		t.Errorf("widths %v, want %v", got, s.widths)
	}
	if got := table.Format(s.u); !slices.Equal(got, s.lines) {
		t.Errorf("lines %q, want %q", got, s.lines)
	}
}

func TestFormatExample(t *testing.T) {
	expectShape(t, shape{tableOf(row("a", "b b"), row("c", "d")), []int{1, 3}, []string{"a | b b", "c | d"}})
}

// TestFormatLongest has the longest text of a column in the first, the middle and the last row.
func TestFormatLongest(t *testing.T) {
	for _, s := range []shape{
		{tableOf(row("long text", "x"), row("a", "y"), row("bc", "z")), []int{9, 1}, []string{"long text | x", "a         | y", "bc        | z"}},
		{tableOf(row("a", "x"), row("long text", "y"), row("bc", "z")), []int{9, 1}, []string{"a         | x", "long text | y", "bc        | z"}},
		{tableOf(row("a", "x"), row("bc", "y"), row("long text", "z")), []int{9, 1}, []string{"a         | x", "bc        | y", "long text | z"}},
		{tableOf(row("x", "long text"), row("y", "a"), row("z", "")), []int{1, 9}, []string{"x | long text", "y | a", "z | "}},
		{tableOf(row("x", "a", "1"), row("y", "long text", "2"), row("z", "", "3")), []int{1, 9, 1}, []string{"x | a         | 1", "y | long text | 2", "z |           | 3"}},
	} {
		expectShape(t, s)
	}
}

func TestFormatEmptyCells(t *testing.T) {
	for _, s := range []shape{
		{tableOf(row("")), []int{0}, []string{""}},
		{tableOf(row(""), row("")), []int{0}, []string{"", ""}},
		{tableOf(row("", "")), []int{0, 0}, []string{" | "}},
		{tableOf(row("", "", "")), []int{0, 0, 0}, []string{" |  | "}},
		{tableOf(row("", "a"), row("b", "")), []int{1, 1}, []string{"  | a", "b | "}},
	} {
		expectShape(t, s)
	}
}

// TestFormatOneColumn pads nothing, as the only column is the last one.
func TestFormatOneColumn(t *testing.T) {
	expectShape(t, shape{column("long text", "a", "", "b c"), []int{9}, []string{"long text", "a", "", "b c"}})
}

func TestFormatBytes(t *testing.T) {
	with := func(u api.Unit, texts ...string) api.Unit {
		u = copyOf(u)
		for r, s := range texts {
			u.Kids[r].Kids[0].Words = marked(2, s)
		}
		return u
	}
	u := tableOf(row("", "x"), row("", "y"))
	for _, s := range []shape{
		{with(u, "é", "e"), []int{2, 1}, []string{"é | x", "e  | y"}}, // bytes, not characters
		{with(u, "\xff\xfe\xfd", "\x00"), []int{3, 1}, []string{"\xff\xfe\xfd | x", "\x00   | y"}},
		{with(u, "|", "| |"), []int{3, 1}, []string{"|   | x", "| | | y"}},
		{with(u, "  ", " a "), []int{3, 1}, []string{"    | x", " a  | y"}},
		{with(u, "日本", "ab"), []int{6, 1}, []string{"日本 | x", "ab     | y"}},
		{with(u, "\n\t", ""), []int{2, 1}, []string{"\n\t | x", "   | y"}},
	} {
		expectShape(t, s)
	}
	v := tableOf(row("", "é"), row("", "\xff |"))
	expectShape(t, shape{v, []int{0, 3}, []string{" | é", " | \xff |"}})
}

// TestTextOfWords has cells with empty words and with more than 256 words, which the text of a sequence of layer 4 does not have.
func TestTextOfWords(t *testing.T) {
	u := tableOf(row("", "x"), row("ab", "y"))
	u.Kids[0].Kids[0].Words = marked(2, "", "", "")
	expectShape(t, shape{u, []int{2, 1}, []string{"   | x", "ab | y"}})
	u.Kids[0].Kids[0].Words = slices.Repeat(marked(2, "w"), 300)
	if got := table.ColumnWidths(u); !slices.Equal(got, []int{599, 1}) {
		t.Error(got)
	}
	check(t, u)
}

func TestColumn(t *testing.T) {
	u := tableOf(row("a", "b b", ""), row("c", "d", "e  f"))
	for c, want := range [][]string{{"a", "c"}, {"b b", "d"}, {"", "e f"}} {
		if got := table.Column(u, c); !slices.Equal(got, want) {
			t.Errorf("%d %q", c, got)
		}
	}
	for _, c := range []int{math.MinInt, -3, -1, 3, 4, 64, math.MaxInt} {
		if got := table.Column(u, c); len(got) != 0 {
			t.Errorf("%d %q", c, got)
		}
	}
}

// P9.4: SortByColumn

// order returns the first column of a table, as one text.
func order(u api.Unit) string { return strings.Join(table.Column(u, 0), " ") }

func TestSortStable(t *testing.T) {
	u := tableOf(row("1", "b"), row("2", "a"), row("3", "b"), row("4", "a"), row("5", ""), row("6", "b"), row("7", ""))
	check(t, u)
	byText, ok := table.SortByColumn(u, 1)
	if !ok || order(byText) != "5 7 2 4 1 3 6" {
		t.Error(order(byText), ok)
	}
	same := column(slices.Repeat([]string{"equal"}, 64)...)
	if got, ok := table.SortByColumn(same, 0); !ok || !unit.Equal(got, same) {
		t.Error("rows with equal texts")
	}
}

// TestSortStableLarge has so many rows that a sort that is not stable shows.
func TestSortStableLarge(t *testing.T) {
	var rows []api.Unit
	for i := range 64 {
		rows = append(rows, row(fmt.Sprint(i), fmt.Sprint(i*7%3), fmt.Sprint(i*5%2)))
	}
	u := tableOf(rows...)
	for c := range 3 {
		if got, ok := table.SortByColumn(u, c); !ok || !unit.Equal(got, sorted(u, c)) {
			t.Error(c, ok)
		}
	}
}

func TestSortByOneThenAnother(t *testing.T) {
	u := tableOf(row("1", "b", "y"), row("2", "a", "y"), row("3", "b", "x"), row("4", "a", "x"))
	for _, c := range []struct {
		first, second int
		want          string
	}{{1, 2, "4 3 2 1"}, {2, 1, "4 2 3 1"}, {1, 0, "1 2 3 4"}, {1, 1, "2 4 1 3"}, {2, 2, "3 4 1 2"}} {
		once, ok1 := table.SortByColumn(u, c.first)
		twice, ok2 := table.SortByColumn(once, c.second)
		if !ok1 || !ok2 || order(twice) != c.want {
			t.Error(c, order(twice))
		}
		if !unit.Equal(twice, sorted(sorted(u, c.first), c.second)) {
			t.Error(c)
		}
	}
}

// reversed returns the texts from the last to the first.
func reversed(l []string) []string {
	l = slices.Clone(l)
	slices.Reverse(l)
	return l
}

// TestSortBytewise sorts texts whose order is not that of numbers, of letters without case, or of single words.
func TestSortBytewise(t *testing.T) {
	for _, want := range [][]string{
		{"10", "2", "9"}, {"", "a", "a b", "aa", "ab"}, {"B", "a"}, {"Z", "z", "é", "日"}, {"a", "a !", "a b", "a!", "a! b"},
	} {
		got, ok := table.SortByColumn(column(reversed(want)...), 0)
		if !ok || !slices.Equal(table.Column(got, 0), want) {
			t.Errorf("%q %v", table.Column(got, 0), ok)
		}
	}
	u := column("", "", "", "")
	for r, s := range []string{"\xff", "\x00", "\x80", "\x7f"} {
		u.Kids[r].Kids[0].Words = marked(1, s)
	}
	if got, _ := table.SortByColumn(u, 0); !slices.Equal(table.Column(got, 0), []string{"\x00", "\x7f", "\x80", "\xff"}) {
		t.Errorf("%q", table.Column(got, 0))
	}
}

// TestSortKeepsRows looks whether rows move as a whole, with headings, IDs, labels, marks and cells.
func TestSortKeepsRows(t *testing.T) {
	u := rich(7, 3)
	for c := range 3 {
		got, ok := table.SortByColumn(u, c)
		if !ok || unit.Equal(got, u) {
			t.Fatal(c, ok)
		}
		old := u.Kids
		for _, r := range got.Kids {
			at := slices.IndexFunc(old, func(x api.Unit) bool { return unit.Equal(x, r) })
			if at < 0 {
				t.Fatal(c, r.Id)
			}
			old = slices.Concat(old[:at], old[at+1:])
		}
		got.Kids = u.Kids
		if len(old) != 0 || !unit.Equal(got, u) {
			t.Error(c)
		}
	}
}

// P9.5

func TestGetAfterSet(t *testing.T) {
	u := rich(3, 4)
	for r := range 3 {
		for c := range 4 {
			for _, l := range [][]api.Word{nil, marked(5, "a", "b"), many(256)} {
				after, _ := table.Set(u, r, c, l...)
				expectOnly(t, u, after, r, c, l)
			}
		}
	}
}

// expectOnly expects that a cell has the words l, and that no other cell has changed.
func expectOnly(t *testing.T, before, after api.Unit, row, column int, l []api.Word) {
	t.Helper()
	rows, columns := table.Size(before)
	for r := range rows {
		for c := range columns {
			want, _ := table.Get(before, r, c)
			if r == row && c == column {
				want = l
			}
			if got, ok := table.Get(after, r, c); !ok || !slices.Equal(got, want) {
				t.Error(row, column, "cell", r, c, got, ok)
			}
		}
	}
}

// TestSetSharedRows sets a cell of a table whose rows, and whose cells, are one and the same in memory.
func TestSetSharedRows(t *testing.T) {
	u := api.Unit{Kind: api.Table, Label: "1", Kids: slices.Repeat([]api.Unit{row("a", "b")}, 3)}
	expectValid(t, u, true)
	got, _ := table.Set(u, 1, 0, marked(5, "new")...)
	expectOnly(t, u, got, 1, 0, marked(5, "new"))
	if lines := table.Format(got); !slices.Equal(lines, []string{"a   | b", "new | b", "a   | b"}) {
		t.Errorf("%q", lines)
	}
}

func TestSortTwice(t *testing.T) {
	r := rand.New(rand.NewSource(1))
	for range 300 {
		u := randomTable(r)
		for c := range u.Kids[0].Kids {
			once, ok1 := table.SortByColumn(u, c)
			twice, ok2 := table.SortByColumn(once, c)
			if !ok1 || !ok2 || !unit.Equal(once, twice) || !slices.IsSorted(table.Column(once, c)) {
				t.Fatal(c)
			}
		}
	}
}

func TestNumberOfBars(t *testing.T) {
	for columns := 1; columns <= 64; columns++ {
		for i, s := range table.Format(size(3, columns)) {
			if strings.Count(s, "|") != columns-1 {
				t.Errorf("%d %d: %q", columns, i, s)
			}
		}
	}
}

// randomTable returns a valid table in which equal texts are frequent.
func randomTable(r *rand.Rand) api.Unit {
	u := rich(1+r.Intn(9), 1+r.Intn(4))
	texts := []string{"", "a", "b", "ab", "a b", "|", "é", "\xff", "long", "B"}
	for i := range u.Kids {
		for k := range u.Kids[i].Kids {
			var l []string
			for range r.Intn(4) {
				l = append(l, texts[r.Intn(len(texts))])
			}
			u.Kids[i].Kids[k].Words = marked(r.Intn(9), l...)
		}
	}
	return u
}

// TestRandom compares all functions with the model on random tables, of which some are spoiled in one place.
func TestRandom(t *testing.T) {
	r := rand.New(rand.NewSource(2))
	faulty := 0
	for range 1500 {
		u := randomTable(r)
		l := nodes(&u)
		x := l[r.Intn(len(l))]
		switch r.Intn(10) {
		case 0:
			x.Kind = someKinds[r.Intn(len(someKinds))]
		case 1:
			x.Kids = append(x.Kids, cell("more"))
		case 2:
			x.Kids = x.Kids[:len(x.Kids)/2]
		case 3:
			x.Kids = append(x.Kids, row(slices.Repeat([]string{"a"}, len(u.Kids[0].Kids))...))
		}
		check(t, u)
		if !isTable(u) {
			faulty++
		}
	}
	if faulty < 200 || faulty > 1000 {
		t.Error(faulty)
	}
}

// P1

// TestHugeArguments gives a tree with 2^16 levels, wide ones, long words and many of them to every function.
func TestHugeArguments(t *testing.T) {
	deep := cell("a")
	for range 1 << 16 {
		deep = api.Unit{Kind: api.Table, Kids: []api.Unit{deep}}
	}
	expectNothing(t, deep)
	below := size(2, 2)
	below.Kids[1].Kids[1].Kids = []api.Unit{deep}
	expectNothing(t, below)
	expectNothing(t, api.Unit{Kind: api.Table, Kids: slices.Repeat([]api.Unit{row("a")}, 1<<16)})
	expectNothing(t, tableOf(row("a"), row(make([]string, 1<<16)...)))
	long := size(2, 2)
	long.Kids[0].Kids[0].Words = slices.Repeat(marked(1, "word"), 1<<16)
	long.Kids[1].Kids[0].Words = marked(1, strings.Repeat("w", 1<<20))
	if got := table.ColumnWidths(long); !slices.Equal(got, []int{1 << 20, 5}) {
		t.Error(got)
	}
	if l := table.Format(long); len(l) != 2 || len(l[0]) != 1<<20+8 || len(l[1]) != 1<<20+8 {
		t.Error(len(l))
	}
	if got, ok := table.SortByColumn(long, 0); !ok || !unit.Equal(got, long) {
		t.Error(ok)
	}
}

// Arguments and memory

// spoil overwrites everything in a tree, up to the capacities.
func spoil(u api.Unit) {
	spoilWords(u.Head)
	spoilWords(u.Words)
	kids := u.Kids[:cap(u.Kids)]
	for i := range kids {
		spoil(kids[i])
		kids[i] = api.Unit{Label: "spoiled"}
	}
}

// spoilWords overwrites words up to the capacity.
func spoilWords(l []api.Word) {
	l = l[:cap(l)]
	for i := range l {
		l[i] = api.Word{Text: "spoiled"}
	}
}

// roomy returns a copy of the tree whose lists have spare capacity.
func roomy(u api.Unit) api.Unit {
	u.Head, u.Words = roomyWords(u.Head), roomyWords(u.Words)
	kids := make([]api.Unit, 0, len(u.Kids)+3)
	for _, kid := range u.Kids {
		kids = append(kids, roomy(kid))
	}
	u.Kids = kids
	return u
}

// roomyWords returns a copy of the words that has spare capacity.
func roomyWords(l []api.Word) []api.Word { return append(make([]api.Word, 0, len(l)+3), l...) }

// unused reports whether the spare capacity of all lists of the tree is unused.
func unused(u api.Unit) bool {
	if !unusedWords(u.Head) || !unusedWords(u.Words) {
		return false
	}
	return !slices.ContainsFunc(u.Kids[len(u.Kids):cap(u.Kids)], func(kid api.Unit) bool { return !isZero(kid) }) && !slices.ContainsFunc(u.Kids, func(kid api.Unit) bool { return !unused(kid) })
}

// unusedWords reports whether the spare capacity of the words is unused.
func unusedWords(l []api.Word) bool {
	return !slices.ContainsFunc(l[len(l):cap(l)], func(w api.Word) bool { return w != api.Word{} })
}

// TestArgumentsAreNotModified calls every function, with words that are part of the table and words that are not.
func TestArgumentsAreNotModified(t *testing.T) {
	r := rand.New(rand.NewSource(3))
	for range 200 {
		want := randomTable(r)
		u := roomy(want)
		l := roomyWords(marked(7, "p", "q"))
		table.Valid(u)
		table.Size(u)
		table.ColumnWidths(u)
		table.Format(u)
		for c := range u.Kids[0].Kids {
			table.Column(u, c)
			table.SortByColumn(u, c)
			for k := range u.Kids {
				table.Get(u, k, c)
				table.Set(u, k, c, l...)
				table.Set(u, k, c, u.Kids[0].Kids[0].Words...)
			}
		}
		if !unit.Equal(u, want) || !unused(u) || !slices.Equal(l, marked(7, "p", "q")) || !unusedWords(l) {
			t.Fatal("an argument is modified")
		}
	}
}

// trees returns the results of Set and SortByColumn that are tables, for a table and words.
func trees(u api.Unit, l []api.Word) []api.Unit {
	set, _ := table.Set(u, 0, 1, l...)
	own, _ := table.Set(u, 0, 1, u.Kids[1].Kids[0].Words...)
	sorted, _ := table.SortByColumn(u, 1)
	return []api.Unit{set, own, sorted}
}

// TestResultsAreNew changes each result, up to its capacities, and looks at the arguments, then the arguments, and looks at the results.
func TestResultsAreNew(t *testing.T) {
	for _, want := range []api.Unit{rich(3, 2), rich(2, 5)} {
		u, l := roomy(want), roomyWords(marked(7, "p", "q"))
		one, two, expected := trees(u, l), trees(u, l), trees(copyOf(want), marked(7, "p", "q"))
		for i, x := range one {
			checkParts(t, x)
			spoil(x)
			if !unit.Equal(u, want) || !unused(u) || !slices.Equal(l, marked(7, "p", "q")) || !unusedWords(l) {
				t.Fatal(i, "shares memory with an argument")
			}
		}
		spoil(u)
		spoilWords(l)
		for i, x := range two {
			if !unit.Equal(x, expected[i]) {
				t.Fatal(i, "keeps an argument, or shares memory with another result")
			}
		}
	}
}

// checkParts changes the lists of words of each unit of a result, and looks at the other units.
func checkParts(t *testing.T, u api.Unit) {
	t.Helper()
	before := copyOf(u)
	old := nodes(&before)
	for i, part := range nodes(&u) {
		spoilWords(part.Head)
		if !slices.Equal(part.Words, old[i].Words) {
			t.Fatal(i, "a heading and words share memory")
		}
		copy(part.Head, old[i].Head)
		spoilWords(part.Words)
		copy(part.Words, old[i].Words)
		if !unit.Equal(u, before) {
			t.Fatal(i, "the parts of a result share memory")
		}
	}
}

// TestSharedPartsAreCopied gives a table in which all rows, cells and words are one and the same in memory.
func TestSharedPartsAreCopied(t *testing.T) {
	l := roomyWords(marked(1, "a", "b"))
	c := api.Unit{Kind: api.Cell, Label: "1", Head: l, Words: l}
	r := api.Unit{Kind: api.Row, Label: "1", Head: l, Words: l, Kids: slices.Repeat([]api.Unit{c}, 3)}
	u := api.Unit{Kind: api.Table, Label: "1", Head: l, Words: l, Kids: slices.Repeat([]api.Unit{r}, 3)}
	for _, x := range trees(u, l) {
		checkParts(t, x)
		x.Kids[0].Kids[0].Label = "2"
		if x.Kids[1].Kids[0].Label != "1" || u.Kids[0].Kids[0].Label != "1" {
			t.Error("rows share memory")
		}
	}
}

func TestListsAreNew(t *testing.T) {
	want := rich(3, 2)
	u := roomy(want)
	words, _ := table.Get(u, 1, 1)
	spoilWords(words)
	again, _ := table.Get(u, 1, 1)
	if !unit.Equal(u, want) || !unused(u) || !slices.Equal(again, want.Kids[1].Kids[1].Words) {
		t.Error("Get")
	}
	for _, f := range []func() []string{func() []string { return table.Column(u, 1) }, func() []string { return table.Format(u) }} {
		before := slices.Clone(f())
		l := f()
		l = l[:cap(l)]
		for i := range l {
			l[i] = "spoiled"
		}
		if !slices.Equal(f(), before) || !unit.Equal(u, want) {
			t.Error("Column or Format")
		}
	}
	widths := table.ColumnWidths(u)
	clear(widths)
	if !slices.Equal(table.ColumnWidths(u), widthsOf(grid(want))) {
		t.Error("ColumnWidths")
	}
}
