package treeedit_test

import (
	"fmt"
	"math"
	"math/rand"
	"slices"
	"strings"
	"testing"

	"pandect/api"
	"pandect/treeedit"
	"pandect/unit"
)

// number returns the ID that ends in n.
func number(n int) api.Id { return api.Id{Act: 3, Item: 1, N: n} }

// unknown is an ID that no tree of these tests has.
var unknown = api.Id{Act: 1, Item: 3, N: 1}

// unitOf returns a unit whose ID ends in n, or that has no ID if n is 0.
func unitOf(n, kind int, label string, kids ...api.Unit) api.Unit {
	u := api.Unit{Kind: kind, Label: label, Kids: kids}
	if n != 0 {
		u.Id = number(n)
	}
	return u
}

// book returns a book with the kids.
func book(kids ...api.Unit) api.Unit { return unitOf(0, api.Book, "", kids...) }

// many returns n units of the kind with the labels from 1 on, and with IDs that end in from and the following numbers.
func many(n, from, kind int) []api.Unit {
	var l []api.Unit
	for i := range n {
		l = append(l, unitOf(from+i, kind, fmt.Sprint(i+1)))
	}
	return l
}

// chain returns units nested in each other; their IDs end in from and the following numbers.
func chain(from int, kinds ...int) api.Unit {
	u := unitOf(from, kinds[0], "1")
	if u.Kind == api.Book {
		u.Id, u.Label = api.Id{}, ""
	}
	if len(kinds) > 1 {
		u.Kids = []api.Unit{chain(from+1, kinds[1:]...)}
	}
	return u
}

// paras returns n times the kind of paragraphs.
func paras(n int) []int { return slices.Repeat([]int{api.Para}, n) }

// words returns words with marks.
func words(act int, l ...string) []api.Word {
	var out []api.Word
	for i, s := range l {
		out = append(out, api.Word{Text: s, By: api.Mark{Act: act, Item: 1, At: i}})
	}
	return out
}

// copyOf returns a copy that shares nothing with u.
func copyOf(u api.Unit) api.Unit {
	u.Head, u.Words, u.Kids = slices.Clone(u.Head), slices.Clone(u.Words), slices.Clone(u.Kids)
	for i := range u.Kids {
		u.Kids[i] = copyOf(u.Kids[i])
	}
	return u
}

// nodes returns pointers to all units of a tree that shares nothing within itself, in document order.
func nodes(u *api.Unit) []*api.Unit {
	l := []*api.Unit{u}
	for i := range u.Kids {
		l = append(l, nodes(&u.Kids[i])...)
	}
	return l
}

// worded returns the tree with a heading and words, which differ, in every unit but a book.
func worded(u api.Unit) api.Unit {
	u = copyOf(u)
	for i, x := range nodes(&u) {
		if x.Kind != api.Book {
			x.Head, x.Words = words(i, "head", fmt.Sprint(i)), words(-i, "text", fmt.Sprint(i), "text")
		}
	}
	return u
}

// sample returns an editable book with all kinds of units.
func sample() api.Unit {
	return worded(book(
		unitOf(1, api.Part, "1",
			unitOf(2, api.Section, "1", unitOf(3, api.Para, "1", unitOf(4, api.Para, "1", unitOf(5, api.Note, "1"))), unitOf(6, api.Para, "2")),
			unitOf(7, api.Section, "2")),
		unitOf(8, api.Section, "1", unitOf(9, api.Table, "1", unitOf(10, api.Row, "1", unitOf(11, api.Cell, "1"), unitOf(12, api.Cell, "2")), unitOf(13, api.Row, "2"))),
		unitOf(14, api.Section, "3", unitOf(15, api.Para, "3"), unitOf(16, api.Note, "1")),
		unitOf(17, api.Part, "2")))
}

// The model: every row of the table of errors by itself, and each edit on a copy, through pointers.

// call contains the arguments of a call of any function.
type call struct {
	u          api.Unit
	id, parent api.Id
	at         int
	x          api.Unit
	label      string
	words      []api.Word
}

// clone returns a copy of the call that shares nothing with it.
func (c call) clone() call {
	c.u, c.x, c.words = copyOf(c.u), copyOf(c.x), slices.Clone(c.words)
	return c
}

// row is a row of the table of errors: whether it applies to a call.
type row struct {
	errno   api.Errno
	applies bool
}

// firstError returns the error of the first row that applies.
func firstError(l []row) api.Errno {
	for _, r := range l {
		if r.applies {
			return r.errno
		}
	}
	return api.OK
}

// isEditable follows the definition of editable trees.
func isEditable(u api.Unit) bool {
	for _, x := range nodes(&u) {
		if x.Kind != api.Book && x.Id == (api.Id{}) {
			return false
		}
	}
	return unit.Valid(u)
}

// find returns the unit with the ID, or nil.
func find(u *api.Unit, id api.Id) *api.Unit {
	if u.Id == id {
		return u
	}
	for i := range u.Kids {
		if x := find(&u.Kids[i], id); x != nil {
			return x
		}
	}
	return nil
}

// parentOf returns the parent of the unit with the ID, and its index among the kids, or nil.
func parentOf(u *api.Unit, id api.Id) (*api.Unit, int) {
	for _, x := range nodes(u) {
		for i := range x.Kids {
			if x.Kids[i].Id == id {
				return x, i
			}
		}
	}
	return nil, 0
}

// twin reports whether a kid of the unit, other than the unit id, has that kind and label.
func twin(p *api.Unit, id api.Id, kind int, label string) bool {
	for _, kid := range p.Kids {
		if kid.Id != id && kid.Kind == kind && kid.Label == label {
			return true
		}
	}
	return false
}

// others returns the number of kids of the unit without the unit id.
func others(p *api.Unit, id api.Id) int {
	n := 0
	for _, kid := range p.Kids {
		if kid.Id != id {
			n++
		}
	}
	return n
}

// level returns the depth at which the unit stands in the tree, or -1 if there is no such unit.
func level(u *api.Unit, id api.Id) int {
	if u.Id == id {
		return 0
	}
	for i := range u.Kids {
		if n := level(&u.Kids[i], id); n >= 0 {
			return n + 1
		}
	}
	return -1
}

// common reports whether an ID occurs in both trees.
func common(a, b api.Unit) bool {
	ids := map[api.Id]bool{}
	for _, x := range nodes(&a) {
		ids[x.Id] = true
	}
	return slices.ContainsFunc(nodes(&b), func(x *api.Unit) bool { return ids[x.Id] })
}

func insertRows(c call) []row {
	p := find(&c.u, c.parent)
	ok := p != nil
	return []row{
		{api.ErrArg, !isEditable(c.u) || !isEditable(c.x) || c.x.Kind == api.Book},
		{api.ErrMissing, !ok},
		{api.ErrKind, ok && !unit.CanContain(p.Kind, c.x.Kind)},
		{api.ErrRange, ok && (c.at < 0 || c.at > len(p.Kids))},
		{api.ErrDuplicateLabel, ok && twin(p, unknown, c.x.Kind, c.x.Label)},
		{api.ErrFull, ok && (len(p.Kids) >= 64 || level(&c.u, c.parent)+1+unit.Depth(c.x) > 8) || unit.Count(c.u)+unit.Count(c.x) > 1024},
		{api.ErrExists, common(c.u, c.x)},
	}
}

func removeRows(c call) []row {
	return []row{{api.ErrArg, !isEditable(c.u)}, {api.ErrMissing, find(&c.u, c.id) == nil}, {api.ErrKind, c.id == c.u.Id}}
}

func moveRows(c call) []row {
	x, p := find(&c.u, c.id), find(&c.u, c.parent)
	both := x != nil && p != nil
	return []row{
		{api.ErrArg, !isEditable(c.u)},
		{api.ErrMissing, !both},
		{api.ErrKind, c.id == c.u.Id || both && (find(x, c.parent) != nil || !unit.CanContain(p.Kind, x.Kind))},
		{api.ErrRange, p != nil && (c.at < 0 || c.at > others(p, c.id))},
		{api.ErrDuplicateLabel, both && twin(p, c.id, x.Kind, x.Label)},
		{api.ErrFull, p != nil && others(p, c.id) >= 64 || both && level(&c.u, c.parent)+1+unit.Depth(*x) > 8},
	}
}

func relabelRows(c call) []row {
	x := find(&c.u, c.id)
	p, _ := parentOf(&c.u, c.id)
	valid := unit.Valid(unitOf(0, api.Note, c.label)) // a note is valid if its label is
	return []row{
		{api.ErrArg, !isEditable(c.u) || !valid},
		{api.ErrMissing, x == nil},
		{api.ErrKind, x != nil && x.Kind == api.Book},
		{api.ErrDuplicateLabel, x != nil && (x.Label == c.label || p != nil && twin(p, c.id, x.Kind, c.label))},
	}
}

func textRows(c call) []row {
	bad := slices.ContainsFunc(c.words, func(w api.Word) bool {
		odd := func(r rune) bool { return r < 33 || r > 126 }
		return w.Text == "" || len(w.Text) > 24 || strings.ContainsFunc(w.Text, odd)
	})
	x := find(&c.u, c.id)
	return []row{
		{api.ErrArg, !isEditable(c.u) || bad},
		{api.ErrMissing, x == nil},
		{api.ErrKind, x != nil && x.Kind == api.Book},
		{api.ErrFull, len(c.words) > 256},
	}
}

// put inserts x among the kids of p.
func put(p *api.Unit, at int, x api.Unit) {
	var kids []api.Unit
	for i := range len(p.Kids) + 1 {
		if i == at {
			kids = append(kids, x)
		}
		if i < len(p.Kids) {
			kids = append(kids, p.Kids[i])
		}
	}
	p.Kids = kids
}

// take removes the unit id and returns it.
func take(u *api.Unit, id api.Id) api.Unit {
	p, at := parentOf(u, id)
	x := p.Kids[at]
	p.Kids = append(slices.Clone(p.Kids[:at]), p.Kids[at+1:]...)
	return x
}

// function is a function of the package: its rows, what it does with the arguments, which it may modify, and the call itself. The results are trees: one, or two for Remove.
type function struct {
	name string
	rows func(c call) []row
	edit func(c call) []api.Unit
	run  func(c call) ([]api.Unit, api.Errno)
}

func functions() []function {
	one := func(u api.Unit, errno api.Errno) ([]api.Unit, api.Errno) { return []api.Unit{u}, errno }
	return []function{
		{"Insert", insertRows, func(c call) []api.Unit {
			put(find(&c.u, c.parent), c.at, c.x)
			return []api.Unit{c.u}
		}, func(c call) ([]api.Unit, api.Errno) { return one(treeedit.Insert(c.u, c.parent, c.at, c.x)) }},
		{"Remove", removeRows, func(c call) []api.Unit {
			x := take(&c.u, c.id)
			return []api.Unit{c.u, x}
		}, func(c call) ([]api.Unit, api.Errno) {
			rest, x, errno := treeedit.Remove(c.u, c.id)
			return []api.Unit{rest, x}, errno
		}},
		{"Move", moveRows, func(c call) []api.Unit {
			x := take(&c.u, c.id)
			put(find(&c.u, c.parent), c.at, x)
			return []api.Unit{c.u}
		}, func(c call) ([]api.Unit, api.Errno) { return one(treeedit.Move(c.u, c.id, c.parent, c.at)) }},
		{"Relabel", relabelRows, func(c call) []api.Unit {
			find(&c.u, c.id).Label = c.label
			return []api.Unit{c.u}
		}, func(c call) ([]api.Unit, api.Errno) { return one(treeedit.Relabel(c.u, c.id, c.label)) }},
		{"SetWords", textRows, func(c call) []api.Unit {
			find(&c.u, c.id).Words = c.words
			return []api.Unit{c.u}
		}, func(c call) ([]api.Unit, api.Errno) { return one(treeedit.SetWords(c.u, c.id, c.words...)) }},
		{"SetHeading", textRows, func(c call) []api.Unit {
			find(&c.u, c.id).Head = c.words
			return []api.Unit{c.u}
		}, func(c call) ([]api.Unit, api.Errno) { return one(treeedit.SetHeading(c.u, c.id, c.words...)) }},
	}
}

// named returns the function with the name.
func named(name string) function {
	l := functions()
	return l[slices.IndexFunc(l, func(f function) bool { return f.name == name })]
}

// check compares a call with the model, and returns its error.
func check(t *testing.T, f function, c call) api.Errno {
	t.Helper()
	want := firstError(f.rows(c))
	got, errno := f.run(c)
	if errno != want {
		t.Errorf("%s: error %v, want %v", f.name, errno, want)
		return errno
	}
	var results []api.Unit
	if want == api.OK {
		results = f.edit(c.clone())
	}
	for i, u := range got {
		if want != api.OK && !isZero(u) || want == api.OK && !unit.Equal(u, results[i]) {
			t.Errorf("%s: error %v, result %d is %v", f.name, errno, i, u)
		}
		if want == api.OK && !isEditable(u) {
			t.Errorf("%s: result %d is not editable", f.name, i)
		}
	}
	if f.name == "Insert" {
		c.at = 0
		if got := treeedit.CanInsert(c.u, c.parent, c.x); got != firstError(f.rows(c)) {
			t.Errorf("CanInsert: error %v, want %v", got, firstError(f.rows(c)))
		}
	}
	return errno
}

// isZero reports whether the unit is the zero unit.
func isZero(u api.Unit) bool {
	return u.Id == (api.Id{}) && u.Kind == 0 && u.Label == "" && len(u.Head)+len(u.Words)+len(u.Kids) == 0
}

// expect compares a call with the model, and its error with the given one.
func expect(t *testing.T, f function, c call, want api.Errno) {
	t.Helper()
	if got := check(t, f, c); got != want {
		t.Errorf("%s: error %v, want %v", f.name, got, want)
	}
}

// P8.1: Insert and CanInsert

func TestInsertExample(t *testing.T) {
	one := api.Unit{Id: api.Id{Act: 1, N: 1}, Kind: api.Section, Label: "1"}
	u, errno := treeedit.Insert(book(), api.Id{}, 0, one)
	if errno != api.OK || !unit.Equal(u, book(one)) {
		t.Error(u, errno)
	}
	two := one
	two.Id.N = 2
	if v, errno := treeedit.Insert(u, api.Id{}, 0, two); errno != api.ErrDuplicateLabel || !isZero(v) {
		t.Error(v, errno)
	}
	rest, x, errno := treeedit.Remove(u, one.Id)
	if errno != api.OK || !unit.Equal(rest, book()) || !unit.Equal(x, one) {
		t.Error(rest, x, errno)
	}
}

// TestInsertEverywhere inserts subtrees below every unit, at all positions and beyond them.
func TestInsertEverywhere(t *testing.T) {
	u := sample()
	insert := named("Insert")
	seen := map[api.Errno]int{}
	for kind := -1; kind <= 8; kind++ {
		for _, label := range []string{"1", "2", "4", "0"} {
			x := worded(unitOf(100, kind, label))
			if kind == api.Section {
				x = worded(unitOf(100, kind, label, unitOf(101, api.Para, "1", unitOf(102, api.Note, "1")), unitOf(103, api.Para, "2")))
			}
			for _, parent := range append(unit.IDs(u), unknown) {
				for at := -2; at <= 6; at++ {
					seen[check(t, insert, call{u: u, parent: parent, at: at, x: x})]++
				}
				for _, at := range []int{math.MinInt, math.MaxInt, 64, 65, 1024} {
					seen[check(t, insert, call{u: u, parent: parent, at: at, x: x})]++
				}
			}
		}
	}
	for _, errno := range []api.Errno{api.OK, api.ErrArg, api.ErrMissing, api.ErrKind, api.ErrRange, api.ErrDuplicateLabel} {
		if seen[errno] < 10 {
			t.Error(errno, seen[errno])
		}
	}
}

func TestInsertPositions(t *testing.T) {
	insert := named("Insert")
	for _, n := range []int{0, 1, 2, 63} {
		u := book(unitOf(1, api.Section, "1", many(n, 10, api.Para)...), unitOf(2, api.Section, "2"))
		x := worded(unitOf(500, api.Para, "500"))
		for _, c := range []struct {
			at   int
			want api.Errno
		}{{-1, api.ErrRange}, {0, api.OK}, {n / 2, api.OK}, {n, api.OK}, {n + 1, api.ErrRange}, {math.MinInt, api.ErrRange}, {math.MaxInt, api.ErrRange}} {
			expect(t, insert, call{u: u, parent: number(1), at: c.at, x: x}, c.want)
			v, _ := treeedit.Insert(u, number(1), c.at, x)
			if c.want == api.OK && (len(v.Kids[0].Kids) != n+1 || !unit.Equal(v.Kids[0].Kids[c.at], x)) {
				t.Error(n, c.at)
			}
		}
		if errno := treeedit.CanInsert(u, number(1), x); errno != api.OK {
			t.Error(n, errno)
		}
	}
}

func TestInsertFullKids(t *testing.T) {
	insert := named("Insert")
	for _, n := range []int{62, 63, 64} {
		want := api.OK
		if n == 64 {
			want = api.ErrFull
		}
		u := book(unitOf(1, api.Section, "1", many(n, 10, api.Para)...), unitOf(2, api.Section, "2"))
		expect(t, insert, call{u: u, parent: number(1), at: n / 2, x: unitOf(500, api.Para, "500")}, want)
		expect(t, insert, call{u: u, parent: number(1), x: unitOf(500, api.Note, "1")}, want) // kids of all kinds count
		expect(t, insert, call{u: u, parent: number(2), x: unitOf(500, api.Para, "500")}, api.OK)
		u = book(many(n, 1, api.Section)...)
		expect(t, insert, call{u: u, at: n, x: unitOf(500, api.Section, "500")}, want)
	}
}

func TestInsertFullDepth(t *testing.T) {
	insert := named("Insert")
	for above := 1; above <= 7; above++ {
		// The book, a section and paragraphs; the parent stands at the depth above.
		u := chain(0, slices.Concat([]int{api.Book, api.Section}, paras(above-1))...)
		u.Kids = append(u.Kids, chain(50, slices.Concat([]int{api.Part, api.Section}, paras(6))...)) // as deep as may be
		for below := range 9 {
			want := api.OK
			if above+1+below > 8 {
				want = api.ErrFull
			}
			x := chain(100, paras(below+1)...)
			x.Label = "2"
			expect(t, insert, call{u: u, parent: number(above), x: x}, want)
			x.Kids = append(x.Kids, unitOf(200, api.Note, "1")) // the deepest kid counts
			x.Kids = append([]api.Unit{unitOf(201, api.Note, "2")}, x.Kids...)
			want = api.OK
			if above+1+max(below, 1) > 8 {
				want = api.ErrFull
			}
			expect(t, insert, call{u: u, parent: number(above), x: x}, want)
		}
	}
}

// large returns a book with n units, of which the first section has few kids.
func large(n int) api.Unit {
	u := book(many(40, 1, api.Section)...)
	next, left := 100, n-41
	for i := range u.Kids {
		kids := min(left, 60)
		if i == 0 {
			kids = min(left, 3)
		}
		u.Kids[i].Kids = many(kids, next, api.Para)
		next += kids
		left -= kids
	}
	return u
}

func TestInsertFullUnits(t *testing.T) {
	insert := named("Insert")
	for _, n := range []int{1000, 1022, 1023, 1024} {
		u := large(n)
		if unit.Count(u) != n || !isEditable(u) {
			t.Fatal(n, unit.Count(u))
		}
		for _, more := range []int{1, 2, 3, 24, 25} {
			x := unitOf(9000, api.Para, "9000", many(more-1, 9001, api.Note)...)
			want := api.OK
			if n+more > 1024 {
				want = api.ErrFull
			}
			expect(t, insert, call{u: u, parent: number(1), at: 1, x: x}, want)
		}
	}
	x := unitOf(9000, api.Section, "9000")
	for i := range 15 {
		x.Kids = append(x.Kids, unitOf(20000+i, api.Para, fmt.Sprint(i+1), many(64, 10000+64*i, api.Note)...))
	}
	for n, want := range map[int]api.Errno{46: api.OK, 47: api.OK, 48: api.OK, 49: api.ErrFull} { // x has 976 units
		expect(t, insert, call{u: large(n), x: x}, want)
	}
}

func TestInsertExists(t *testing.T) {
	insert := named("Insert")
	u := sample()
	for _, n := range []int{1, 2, 5, 12, 17, 18, -1} {
		want := api.ErrExists
		if n == 18 || n == -1 {
			want = api.OK
		}
		for i, x := range []api.Unit{
			unitOf(n, api.Section, "9"),
			unitOf(n, api.Section, "9", unitOf(100, api.Para, "1")),
			unitOf(100, api.Section, "9", unitOf(n, api.Para, "1")),
			unitOf(100, api.Section, "9", unitOf(101, api.Para, "1"), unitOf(102, api.Para, "2", unitOf(n, api.Note, "1"))),
		} {
			for _, parent := range []int{0, 1, 17} {
				c := call{u: u, x: x}
				if parent != 0 {
					c.parent = number(parent)
				}
				if got := check(t, insert, c); got != want {
					t.Error(n, i, parent, got)
				}
			}
		}
	}
	// Each part of the ID counts.
	for _, id := range []api.Id{{Act: 3, Item: 1, N: 100}, {Act: 3, Item: 2, N: 1}, {Act: 4, Item: 1, N: 1}, {N: 1}, {Act: 3}, {Item: 1}} {
		x := unitOf(1, api.Section, "9")
		x.Id = id
		expect(t, insert, call{u: u, x: x}, api.OK)
	}
}

func TestInsertDuplicateLabel(t *testing.T) {
	insert := named("Insert")
	for i, c := range []struct {
		parent, kind int
		label        string
		want         api.Errno
	}{
		{1, api.Section, "1", api.ErrDuplicateLabel}, {1, api.Section, "2", api.ErrDuplicateLabel}, {1, api.Section, "3", api.OK}, {1, api.Section, "1A", api.OK}, {17, api.Section, "1", api.OK},
		{14, api.Para, "3", api.ErrDuplicateLabel}, {14, api.Para, "1", api.OK}, {14, api.Note, "1", api.ErrDuplicateLabel}, {14, api.Note, "3", api.OK}, {14, api.Table, "1", api.OK}, {14, api.Table, "3", api.OK},
		{10, api.Cell, "2", api.ErrDuplicateLabel}, {13, api.Cell, "2", api.OK}, {9, api.Row, "3", api.OK}, {9, api.Row, "2", api.ErrDuplicateLabel},
	} {
		if got := check(t, insert, call{u: sample(), parent: number(c.parent), x: unitOf(100, c.kind, c.label)}); got != c.want {
			t.Error(i, got)
		}
	}
}

// P8.1: Remove

func TestRemoveEverything(t *testing.T) {
	for _, u := range []api.Unit{sample(), book(), sample().Kids[0], sample().Kids[1], unitOf(1, api.Note, "1"), large(1024)} {
		for _, id := range append(unit.IDs(u)[:min(20, unit.Count(u))], unknown, number(-1), api.Id{}) {
			want := api.OK
			if id == u.Id {
				want = api.ErrKind
			} else if find(&u, id) == nil {
				want = api.ErrMissing
			}
			expect(t, named("Remove"), call{u: u, id: id}, want)
		}
	}
}

// P8.1: Move

// TestMoveEverywhere moves every unit to all places, and beyond them.
func TestMoveEverywhere(t *testing.T) {
	seen := map[api.Errno]int{}
	for _, u := range []api.Unit{sample(), sample().Kids[0], sample().Kids[2]} {
		ids := append(unit.IDs(u), unknown)
		for _, id := range ids {
			for _, parent := range ids {
				for at := -1; at <= 5; at++ {
					seen[check(t, named("Move"), call{u: u, id: id, parent: parent, at: at})]++
				}
			}
		}
	}
	for _, errno := range []api.Errno{api.OK, api.ErrMissing, api.ErrKind, api.ErrRange, api.ErrDuplicateLabel} {
		if seen[errno] < 10 {
			t.Error(errno, seen[errno])
		}
	}
}

// TestMoveWithinParent moves one of five kids: positions are those among the four other kids.
func TestMoveWithinParent(t *testing.T) {
	u := worded(unitOf(1, api.Section, "1", many(5, 11, api.Para)...))
	order := func(u api.Unit) []int {
		var l []int
		for _, kid := range u.Kids {
			l = append(l, kid.Id.N-10)
		}
		return l
	}
	for i, c := range []struct {
		n, at int
		want  []int
	}{{1, 0, []int{1, 2, 3, 4, 5}}, {1, 1, []int{2, 1, 3, 4, 5}}, {1, 4, []int{2, 3, 4, 5, 1}}, {5, 0, []int{5, 1, 2, 3, 4}}, {5, 4, []int{1, 2, 3, 4, 5}}, {3, 2, []int{1, 2, 3, 4, 5}}, {3, 3, []int{1, 2, 4, 3, 5}}, {3, 1, []int{1, 3, 2, 4, 5}}} {
		v, errno := treeedit.Move(u, number(10+c.n), number(1), c.at)
		if errno != api.OK || !slices.Equal(order(v), c.want) {
			t.Error(i, order(v), errno)
		}
	}
	for at, want := range map[int]api.Errno{-1: api.ErrRange, 0: api.OK, 4: api.OK, 5: api.ErrRange, 6: api.ErrRange, math.MinInt: api.ErrRange, math.MaxInt: api.ErrRange} {
		expect(t, named("Move"), call{u: u, id: number(12), parent: number(1), at: at}, want)
	}
	// In another parent, all its kids count.
	u = book(u, unitOf(2, api.Section, "2", unitOf(50, api.Para, "50")))
	for at, want := range map[int]api.Errno{-1: api.ErrRange, 0: api.OK, 5: api.OK, 6: api.ErrRange} {
		expect(t, named("Move"), call{u: u, id: number(50), parent: number(1), at: at}, want)
	}
}

func TestMoveErrors(t *testing.T) {
	u := sample()
	for i, c := range []struct {
		id, parent api.Id
		at         int
		want       api.Errno
	}{
		{api.Id{}, api.Id{}, 0, api.ErrKind}, {api.Id{}, number(1), 0, api.ErrKind}, {api.Id{}, unknown, 0, api.ErrMissing}, {unknown, api.Id{}, 0, api.ErrMissing}, {unknown, unknown, 0, api.ErrMissing},
		{number(3), number(3), 0, api.ErrKind}, {number(3), number(4), 0, api.ErrKind}, {number(1), number(2), 0, api.ErrKind}, {number(2), number(6), 0, api.ErrKind}, // to itself and below itself
		{number(3), number(5), 0, api.ErrKind}, {number(2), number(8), 0, api.ErrKind}, {number(11), number(9), 0, api.ErrKind}, {number(1), number(17), 0, api.ErrKind}, {number(6), api.Id{}, 0, api.ErrKind},
		{number(2), api.Id{}, 0, api.ErrDuplicateLabel}, {number(8), number(1), 0, api.ErrDuplicateLabel}, {number(16), number(4), 0, api.ErrDuplicateLabel}, {number(2), number(1), 1, api.OK}, {number(15), number(2), 2, api.OK}, {number(7), api.Id{}, 4, api.OK}, {number(9), number(15), 0, api.OK}, {number(12), number(13), 0, api.OK},
	} {
		if got := check(t, named("Move"), call{u: u, id: c.id, parent: c.parent, at: c.at}); got != c.want {
			t.Error(i, got)
		}
	}
}

func TestMoveFull(t *testing.T) {
	move := named("Move")
	for _, n := range []int{63, 64} {
		u := book(unitOf(1, api.Section, "1", many(n, 10, api.Para)...), unitOf(2, api.Section, "2", unitOf(500, api.Para, "500"), unitOf(501, api.Note, "1")))
		want := api.OK
		if n == 64 {
			want = api.ErrFull
		}
		expect(t, move, call{u: u, id: number(500), parent: number(1), at: n}, want)
		expect(t, move, call{u: u, id: number(501), parent: number(1)}, want)
		expect(t, move, call{u: u, id: number(12), parent: number(1), at: 62}, api.OK) // within a full unit
		expect(t, move, call{u: u, id: number(12), parent: number(2)}, api.OK)
	}
	for above := 1; above <= 7; above++ {
		for below := range 6 {
			u := chain(0, slices.Concat([]int{api.Book, api.Section}, paras(above-1))...)
			x := chain(100, paras(below+1)...)
			x.Label = "2"
			u.Kids = append(u.Kids, unitOf(99, api.Section, "9", x))
			want := api.OK
			if above+1+below > 8 {
				want = api.ErrFull
			}
			expect(t, move, call{u: u, id: number(100), parent: number(above)}, want)
		}
	}
	// The number of units stays the same, and so may the depth.
	u := large(1016)
	u.Kids[39] = chain(5000, slices.Concat([]int{api.Section}, paras(7))...)
	u.Kids[39].Label = "40"
	if unit.Count(u) != 1023 || unit.Depth(u) != 8 {
		t.Error(unit.Count(u), unit.Depth(u))
	}
	expect(t, move, call{u: large(1024), id: number(102), parent: number(1)}, api.OK)
	expect(t, move, call{u: u, id: number(5002), parent: number(5001)}, api.OK)
	expect(t, move, call{u: u, id: number(5003), parent: number(5000)}, api.ErrDuplicateLabel)
	expect(t, move, call{u: u, id: number(5003), parent: number(2)}, api.ErrDuplicateLabel)
}

// P8.1: Relabel

func TestRelabel(t *testing.T) {
	for i, c := range []struct {
		id    api.Id
		label string
		want  api.Errno
	}{
		{number(1), "3", api.OK}, {number(1), "2", api.ErrDuplicateLabel}, {number(1), "1", api.ErrDuplicateLabel}, // its own
		{number(8), "2", api.OK}, {number(8), "3", api.ErrDuplicateLabel}, {number(14), "1", api.ErrDuplicateLabel}, {number(17), "3", api.OK},
		{number(2), "2", api.ErrDuplicateLabel}, {number(2), "3", api.OK}, {number(16), "3", api.OK}, {number(15), "1", api.OK}, {number(15), "3A", api.OK}, {number(12), "1", api.ErrDuplicateLabel}, {number(5), "9999ZZZ", api.OK}, {number(5), "1", api.ErrDuplicateLabel},
		{api.Id{}, "1", api.ErrKind}, {api.Id{}, "2", api.ErrKind}, {api.Id{}, "", api.ErrArg}, {unknown, "1", api.ErrMissing}, {unknown, "0", api.ErrArg},
		{number(7), "", api.ErrArg}, {number(7), "0", api.ErrArg}, {number(7), "03", api.ErrArg}, {number(7), "3a", api.ErrArg}, {number(7), "A", api.ErrArg}, {number(7), " 3", api.ErrArg}, {number(7), "3 ", api.ErrArg}, {number(7), "10000", api.ErrArg}, {number(7), "1AAAA", api.ErrArg}, {number(7), "\xff", api.ErrArg}, {number(7), strings.Repeat("1", 100000), api.ErrArg},
	} {
		if got := check(t, named("Relabel"), call{u: sample(), id: c.id, label: c.label}); got != c.want {
			t.Error(i, got)
		}
	}
	// A root that is not a book has no siblings.
	u := sample().Kids[0]
	for label, want := range map[string]api.Errno{"1": api.ErrDuplicateLabel, "2": api.OK, "0": api.ErrArg} {
		expect(t, named("Relabel"), call{u: u, id: number(1), label: label}, want)
	}
	for _, id := range unit.IDs(sample()) {
		for _, label := range []string{"1", "2", "3", "4", "12AB", ""} {
			check(t, named("Relabel"), call{u: sample(), id: id, label: label})
		}
	}
}

// P8.1: SetWords and SetHeading

func TestSetText(t *testing.T) {
	lists := [][]api.Word{nil, {}, words(1, "a"), words(2, "a", "b", "a"), words(0, "!", "~", strings.Repeat("x", 24)), {{Text: "a"}, {Text: "b", By: api.Mark{Act: -1, Item: math.MinInt, At: math.MaxInt}}}}
	for _, n := range []int{255, 256} {
		lists = append(lists, words(5, slices.Repeat([]string{"w"}, n)...))
	}
	u := sample()
	for _, name := range []string{"SetWords", "SetHeading"} {
		for _, id := range append(unit.IDs(u), unknown) {
			want := api.OK
			switch id {
			case unknown:
				want = api.ErrMissing
			case api.Id{}:
				want = api.ErrKind
			}
			for _, l := range lists {
				expect(t, named(name), call{u: u, id: id, words: l}, want)
			}
		}
		for _, root := range []api.Unit{u.Kids[0], unitOf(1, api.Note, "1")} {
			expect(t, named(name), call{u: root, id: root.Id, words: lists[3]}, api.OK)
		}
	}
}

func TestSetTextErrors(t *testing.T) {
	u := sample()
	full := words(5, slices.Repeat([]string{"w"}, 256)...)
	for _, name := range []string{"SetWords", "SetHeading"} {
		for _, n := range []int{257, 258, 1000, 5000} {
			l := words(5, slices.Repeat([]string{"w"}, n)...)
			expect(t, named(name), call{u: u, id: number(3), words: l}, api.ErrFull)
		}
		for _, bad := range []string{"", " ", "a b", "a ", "\x00", "\x20", "\x7f", "\n", "é", "\xff", strings.Repeat("x", 25), strings.Repeat("x", 100000)} {
			for _, at := range []int{0, 100, 255, 256} {
				l := append(slices.Clone(full), words(1, "w")...)
				l[at].Text = bad
				expect(t, named(name), call{u: u, id: number(3), words: l}, api.ErrArg)
				expect(t, named(name), call{u: u, id: number(3), words: l[at:]}, api.ErrArg)
				expect(t, named(name), call{u: u, id: number(3), words: l[:at+1]}, api.ErrArg)
				expect(t, named(name), call{u: u, id: number(3), words: l[:at]}, api.OK)
			}
		}
	}
}

// TestTextAndHeading looks whether each function sets its own list.
func TestTextAndHeading(t *testing.T) {
	u := worded(unitOf(1, api.Section, "1"))
	l := words(9, "x", "y")
	if v, _ := treeedit.SetWords(u, number(1), l...); !slices.Equal(v.Words, l) || !slices.Equal(v.Head, u.Head) {
		t.Error(v)
	}
	if v, _ := treeedit.SetHeading(u, number(1), l...); !slices.Equal(v.Head, l) || !slices.Equal(v.Words, u.Words) {
		t.Error(v)
	}
}

// Trees that are not editable

// broken returns trees that are not editable.
func broken() map[string]api.Unit {
	l := map[string]api.Unit{
		"bare section": unit.Strip(sample().Kids[0]), "bare book": unit.Strip(sample()), "bare note": unitOf(0, api.Note, "1"),
		"zero ID": unitOf(1, api.Section, "1", unitOf(0, api.Para, "1")), "zero ID at the root": unitOf(0, api.Section, "1", unitOf(1, api.Para, "1")), "zero ID in a book": book(unitOf(1, api.Section, "1", unitOf(0, api.Para, "1"))), "zero ID below a book": book(unitOf(0, api.Section, "1")),
		"book with an ID": unitOf(1, api.Book, ""), "book with an ID and kids": unitOf(1, api.Book, "", unitOf(2, api.Section, "1")), "book with a label": unitOf(0, api.Book, "1"),
		"equal IDs": book(unitOf(1, api.Section, "1"), unitOf(1, api.Section, "2")), "equal labels": book(unitOf(1, api.Section, "1"), unitOf(2, api.Section, "1")), "nesting": book(unitOf(1, api.Para, "1")), "book in a book": book(book()), "label": book(unitOf(1, api.Section, "")), "kind": unitOf(1, 8, "1"), "negative kind": unitOf(1, -1, "1"),
		"kids": book(many(65, 1, api.Section)...), "units": large(1025), "depth": chain(0, slices.Concat([]int{api.Book, api.Section}, paras(8))...),
	}
	for i, bad := range [][]api.Word{words(1, ""), words(1, "a b"), words(1, slices.Repeat([]string{"w"}, 257)...)} {
		u, v := sample(), sample()
		find(&u, number(5)).Words = bad
		find(&v, number(17)).Head = bad
		l[fmt.Sprint("words ", i)], l[fmt.Sprint("heading ", i)] = u, v
	}
	return l
}

func TestNotEditable(t *testing.T) {
	for name, u := range broken() {
		if isEditable(u) {
			t.Fatal(name)
		}
		ids := unit.IDs(u)
		for _, id := range append(ids[:min(len(ids), 4)], ids[len(ids)-1], unknown) {
			for _, f := range functions() {
				if got := check(t, f, call{u: u, id: id, parent: u.Id, x: unitOf(9000, api.Section, "9"), label: "9", words: words(1, "a")}); got != api.ErrArg {
					t.Error(name, f.name, got)
				}
			}
		}
		// The same trees as subtrees.
		for _, c := range []call{{u: book(), x: u}, {u: unitOf(9000, api.Section, "9"), parent: number(9000), x: u}} {
			if got := check(t, named("Insert"), c); got != api.ErrArg {
				t.Error(name, got)
			}
		}
	}
	for _, c := range []call{{u: book(), x: book()}, {u: sample(), x: book(unitOf(100, api.Section, "9"))}, {u: sample(), parent: number(1), x: api.Unit{}}} {
		expect(t, named("Insert"), c, api.ErrArg)
	}
}

// TestEditable edits trees with every kind of root.
func TestEditable(t *testing.T) {
	for kind := api.Part; kind <= api.Note; kind++ {
		root := unitOf(1, kind, "1")
		for kid := api.Book; kid <= api.Note; kid++ {
			want := api.OK
			if kid == api.Book {
				want = api.ErrArg
			} else if !unit.CanContain(kind, kid) {
				want = api.ErrKind
			}
			x := unitOf(2, kid, "1")
			if kid == api.Book {
				x = book()
			}
			expect(t, named("Insert"), call{u: root, parent: number(1), x: x}, want)
			expect(t, named("Insert"), call{u: root, x: x}, map[bool]api.Errno{true: api.ErrArg, false: api.ErrMissing}[kid == api.Book])
		}
		expect(t, named("Remove"), call{u: root, id: number(1)}, api.ErrKind)
		expect(t, named("Move"), call{u: root, id: number(1), parent: number(1)}, api.ErrKind)
		expect(t, named("Relabel"), call{u: root, id: number(1), label: "2"}, api.OK)
		expect(t, named("SetWords"), call{u: root, id: number(1), words: words(1, "a")}, api.OK)
	}
}

// Two errors at once

// fault makes a row of the table of errors apply to a call, if it can.
type fault func(c *call)

// addTo gives the unit with the ID more kids, if there is such a unit.
func addTo(u *api.Unit, id api.Id, kids ...api.Unit) {
	if p := find(u, id); p != nil {
		p.Kids = append(slices.Clone(p.Kids), kids...)
	}
}

// fill gives the unit with the ID so many notes that it has 64 kids besides the target.
func fill(c *call, id api.Id) {
	if p := find(&c.u, id); p != nil {
		addTo(&c.u, id, many(64-others(p, c.id), 5000, api.Note)...)
	}
}

// spoilTree puts a unit without a label below the root.
func spoilTree(c *call) { addTo(&c.u, c.u.Id, unitOf(7001, api.Section, "")) }

// dropID puts a unit without an ID below the root.
func dropID(c *call) { addTo(&c.u, c.u.Id, unitOf(0, api.Section, "77")) }

// deepBook returns a book with one unit on every level that a tree may have.
func deepBook() api.Unit {
	return worded(chain(0, slices.Concat([]int{api.Book, api.Part, api.Section}, paras(6))...))
}

// pairCase describes a function whose errors are to be combined: faults by row of the table, in the order of the rows, and pairs of rows that no call can have.
type pairCase struct {
	name       string
	base       call
	faults     [][]fault
	impossible [][2]api.Errno
	// order tells in which order the rows' faults are put in, since some depend on others.
	order []int
}

// pairCases returns a case for every function. In each, the call without a fault has an effect.
func pairCases() []pairCase {
	trees := []fault{spoilTree, dropID}
	base := call{u: sample(), id: number(15), parent: number(2), at: 1, x: worded(unitOf(100, api.Para, "5", unitOf(101, api.Note, "1"))), label: "7", words: words(1, "a", "b")}
	missing := []fault{func(c *call) { c.id = unknown }}
	root := []fault{func(c *call) { c.id = c.u.Id }}
	manyWords := []fault{func(c *call) { c.words = append(words(1, slices.Repeat([]string{"w"}, 257)...), c.words...) }}
	badWords := []fault{func(c *call) { c.words = append(slices.Clone(c.words), api.Word{}) }, func(c *call) { c.words = append(words(1, "a b"), c.words...) }}
	ranges := []fault{func(c *call) { c.at = -1 }, func(c *call) { c.at = 65 }}
	insert := [][]fault{
		append(slices.Clone(trees), func(c *call) { c.x.Kids[0].Label = "0" }, func(c *call) { c.x.Kids[0].Id = api.Id{} }, func(c *call) { c.x.Kids[0].Words = words(1, "") }, func(c *call) { c.x = book(c.x) }, func(c *call) { c.x = book() }),
		{func(c *call) { c.parent = unknown }},
		{func(c *call) { c.x.Kind, c.x.Kids = api.Row, []api.Unit{unitOf(101, api.Cell, "1")} }, func(c *call) { c.parent = number(5) }, func(c *call) { c.parent = c.u.Id }},
		ranges,
		{func(c *call) { c.x.Label = "1" }},
		{func(c *call) { fill(c, c.parent) }, func(c *call) { c.u.Kids[3].Kids = slices.Concat(c.u.Kids[3].Kids, largeSections()) }, func(c *call) { c.x.Kids = append(c.x.Kids, chain(200, paras(6)...)) }},
		{func(c *call) { c.x.Id = number(16) }, func(c *call) { c.x.Kids[0].Id = number(1) }},
	}
	move := [][]fault{
		trees,
		{missing[0], func(c *call) { c.parent = unknown }, func(c *call) { c.id, c.parent = unknown, unknown }},
		{root[0], func(c *call) { c.parent = c.id }, func(c *call) { c.id, c.parent = number(3), number(4) }, func(c *call) { c.parent = number(5) }, func(c *call) { c.id = number(1) }},
		ranges,
		{func(c *call) {
			if x := find(&c.u, c.id); x != nil && x.Kind != api.Book {
				addTo(&c.u, c.parent, unitOf(7002, x.Kind, x.Label))
			}
		}},
		{func(c *call) { fill(c, c.parent) }, func(c *call) { addTo(&c.u, number(15), chain(7100, paras(5)...)) }},
	}
	noUnit := [2]api.Errno{api.ErrMissing, api.ErrKind}
	text := [][]fault{slices.Concat(trees, badWords), missing, root, manyWords}
	noText := [][2]api.Errno{noUnit}
	return []pairCase{
		{"Insert", base, insert, [][2]api.Errno{noUnit, {api.ErrMissing, api.ErrRange}, {api.ErrMissing, api.ErrDuplicateLabel}, {api.ErrKind, api.ErrDuplicateLabel}}, []int{2, 4, 5, 6, 3, 0, 1}},
		{"Remove", base, [][]fault{trees, missing, root}, [][2]api.Errno{noUnit}, []int{0, 1, 2}},
		{"Move", base, move, [][2]api.Errno{{api.ErrMissing, api.ErrDuplicateLabel}}, []int{2, 4, 5, 3, 0, 1}},
		{"Relabel", base, [][]fault{append(slices.Clone(trees), func(c *call) { c.label = "0" + c.label }), missing, root, {func(c *call) {
			if x := find(&c.u, c.id); x != nil {
				c.label = x.Label
			}
		}, func(c *call) { addTo(&c.u, number(14), unitOf(7003, api.Para, c.label)) }}}, [][2]api.Errno{noUnit, {api.ErrMissing, api.ErrDuplicateLabel}, {api.ErrKind, api.ErrDuplicateLabel}}, []int{3, 0, 1, 2}},
		{"SetWords", base, text, noText, []int{3, 0, 1, 2}},
		{"SetHeading", base, text, noText, []int{3, 0, 1, 2}},
	}
}

// largeSections returns sections with so many units that a sample with them has 1023 units.
func largeSections() []api.Unit {
	left := 1023 - unit.Count(sample())
	var l []api.Unit
	for n := 1; left > 0; n++ {
		kids := min(left-1, 64)
		l = append(l, unitOf(10000*n, api.Section, fmt.Sprint(n), many(kids, 10000*n+1, api.Para)...))
		left -= 1 + kids
	}
	return l
}

// combine calls try for the base with each choice of faults: at most one for every row.
func (p pairCase) combine(c call, k int, try func(c call)) {
	if k == len(p.order) {
		try(c)
		return
	}
	p.combine(c, k+1, try)
	for _, f := range p.faults[p.order[k]] {
		broken := c.clone()
		f(&broken)
		p.combine(broken, k+1, try)
	}
}

// TestTwoErrors gives every function calls to which two or more rows of the table of errors apply, in all combinations.
func TestTwoErrors(t *testing.T) {
	for _, p := range pairCases() {
		f := named(p.name)
		expect(t, f, p.base, api.OK)
		exact := map[[2]api.Errno]bool{} // pairs of rows of which a call has these only
		single := map[api.Errno]bool{}
		var all []api.Errno
		for _, r := range f.rows(p.base) {
			all = append(all, r.errno)
		}
		p.combine(p.base, 0, func(c call) {
			check(t, f, c)
			var l []api.Errno
			for _, r := range f.rows(c) {
				if r.applies {
					l = append(l, r.errno)
				}
			}
			if len(l) == 1 {
				single[l[0]] = true
			}
			if len(l) == 2 {
				exact[[2]api.Errno{l[0], l[1]}] = true
			}
		})
		for i, a := range all {
			if !single[a] {
				t.Error(p.name, "no call with", a, "only")
			}
			for _, b := range all[i+1:] {
				pair := [2]api.Errno{a, b}
				if exact[pair] == slices.Contains(p.impossible, pair) {
					t.Error(p.name, "calls with", pair, ":", exact[pair])
				}
			}
		}
	}
}

// TestCanInsertPairs looks at pairs of errors of CanInsert by itself.
func TestCanInsertPairs(t *testing.T) {
	full := book(unitOf(1, api.Section, "1", many(64, 10, api.Para)...))
	tableRow, para, other := unitOf(100, api.Row, "1"), unitOf(100, api.Para, "1"), unitOf(100, api.Para, "100")
	with := func(u api.Unit, n int) api.Unit {
		u.Id = number(n)
		return u
	}
	for i, c := range []struct {
		u      api.Unit
		parent api.Id
		x      api.Unit
		want   api.Errno
	}{
		{full, number(1), book(), api.ErrArg}, {full, unknown, book(), api.ErrArg}, {full, unknown, unitOf(0, api.Para, "1"), api.ErrArg}, {full, number(1), unitOf(0, api.Para, "1"), api.ErrArg},
		{full, unknown, with(para, 1), api.ErrMissing}, {large(1024), unknown, unitOf(9999, api.Para, "1"), api.ErrMissing},
		{full, number(1), tableRow, api.ErrKind}, {full, number(1), with(tableRow, 1), api.ErrKind},
		{full, number(1), para, api.ErrDuplicateLabel}, {full, number(1), with(para, 1), api.ErrDuplicateLabel},
		{full, number(1), other, api.ErrFull}, {full, number(1), with(other, 1), api.ErrFull},
		{full, number(10), with(other, 1), api.ErrExists}, {full, number(10), other, api.OK},
	} {
		if got := treeedit.CanInsert(c.u, c.parent, c.x); got != c.want {
			t.Error(i, got)
		}
		if _, got := treeedit.Insert(c.u, c.parent, 0, c.x); got != c.want {
			t.Error(i, got)
		}
	}
}

// P8.2

// checkOthers compares the units that a call does not name before and after it: content, parent, and order among siblings.
func checkOthers(t *testing.T, before, after api.Unit, skip func(id api.Id) bool) {
	t.Helper()
	for _, x := range nodes(&before) {
		y := find(&after, x.Id)
		if skip(x.Id) {
			continue
		}
		if y == nil || x.Kind != y.Kind || x.Label != y.Label || !slices.Equal(x.Head, y.Head) || !slices.Equal(x.Words, y.Words) {
			t.Error(x.Id, "has changed")
			continue
		}
		p, _ := parentOf(&before, x.Id)
		q, _ := parentOf(&after, x.Id)
		if (p == nil) != (q == nil) || p != nil && p.Id != q.Id {
			t.Error(x.Id, "has another parent")
		}
	}
	for _, x := range nodes(&before) {
		if y := find(&after, x.Id); y != nil && !slices.Equal(kept(*x, after, skip), kept(*y, before, skip)) {
			t.Error(x.Id, "has its kids in another order")
		}
	}
}

// kept returns the IDs of the kids of the unit that are in the other tree too and are not skipped.
func kept(u, other api.Unit, skip func(id api.Id) bool) []api.Id {
	var l []api.Id
	for _, kid := range u.Kids {
		if !skip(kid.Id) && find(&other, kid.Id) != nil {
			l = append(l, kid.Id)
		}
	}
	return l
}

// randomID returns the ID of a unit of the tree, or an unknown one.
func randomID(r *rand.Rand, u api.Unit) api.Id {
	if r.Intn(20) == 0 {
		return unknown
	}
	ids := unit.IDs(u)
	return ids[r.Intn(len(ids))]
}

// randomCall returns arguments for any function on the tree. The kinds of parent and kid often suit each other.
func randomCall(r *rand.Rand, u api.Unit, next int) call {
	label := func() string { return fmt.Sprint(1 + r.Intn(4)) }
	c := call{u: u, id: randomID(r, u), parent: randomID(r, u), at: r.Intn(4) - r.Intn(2), label: label(), words: words(next, []string{"a", "b", "c"}[:r.Intn(4)]...)}
	kind := api.Part + r.Intn(7)
	for range 10 {
		p, _ := unit.Find(u, c.parent)
		if x, _ := unit.Find(u, c.id); !unit.CanContain(p.Kind, x.Kind) {
			c.id = randomID(r, u)
		}
		if !unit.CanContain(p.Kind, kind) {
			kind = api.Part + r.Intn(7)
		}
	}
	x := unitOf(next, kind, label())
	if kid := api.Part + r.Intn(7); unit.CanContain(kind, kid) {
		x.Kids = append(x.Kids, unitOf(next+1, kid, label()))
	}
	if r.Intn(20) == 0 {
		x.Id = randomID(r, u)
	}
	c.x = worded(x)
	return c
}

// TestRandomEdits applies many edits one after the other, and compares each with the model and with the promise about the other units.
func TestRandomEdits(t *testing.T) {
	r := rand.New(rand.NewSource(8))
	seen := map[string]int{}
	for range 60 {
		u := sample()
		if r.Intn(2) == 0 {
			u = book()
		}
		for n := range 150 {
			c := randomCall(r, u, 1000+2*n)
			f := functions()[r.Intn(6)]
			if unit.Count(u) > 60 {
				f = named("Remove")
			}
			if check(t, f, c) != api.OK {
				continue
			}
			seen[f.name]++
			l, _ := f.run(c)
			x := find(&c.u, c.id)
			checkOthers(t, u, l[0], func(id api.Id) bool {
				if f.name == "Insert" {
					return false
				}
				return id == c.id || f.name == "Remove" && x != nil && find(x, id) != nil
			})
			u = l[0]
		}
	}
	for _, f := range functions() {
		if seen[f.name] < 100 {
			t.Error(f.name, seen[f.name])
		}
	}
}

// P8.3

func TestRemoveAndInsert(t *testing.T) {
	for _, u := range []api.Unit{sample(), sample().Kids[0], deepBook()} {
		for _, id := range unit.IDs(u)[1:] {
			parent, at, _ := unit.Parent(u, id)
			rest, x, errno := treeedit.Remove(u, id)
			back, again := treeedit.Insert(rest, parent, at, x)
			if errno != api.OK || again != api.OK || !unit.Equal(back, u) {
				t.Error(id, errno, again, back)
			}
		}
	}
}

func TestMoveAwayAndBack(t *testing.T) {
	moves := 0
	for _, u := range []api.Unit{sample(), sample().Kids[0], sample().Kids[1]} {
		for _, id := range unit.IDs(u)[1:] {
			parent, at, _ := unit.Parent(u, id)
			for _, other := range unit.IDs(u) {
				for k := range 5 {
					away, errno := treeedit.Move(u, id, other, k)
					if errno != api.OK {
						continue
					}
					moves++
					if back, errno := treeedit.Move(away, id, parent, at); errno != api.OK || !unit.Equal(back, u) {
						t.Error(id, other, k, errno, back)
					}
				}
			}
		}
	}
	if moves < 50 {
		t.Error(moves)
	}
}

// P1

// TestHugeArguments gives a tree with 2^16 levels, a wide one, and long lists to every function.
func TestHugeArguments(t *testing.T) {
	deep := unitOf(1, api.Para, "1")
	for n := 2; n <= 1<<16; n++ {
		deep = unitOf(n, api.Para, "1", deep)
	}
	wide := unitOf(1, api.Section, "1", slices.Repeat([]api.Unit{unitOf(2, api.Para, strings.Repeat("1", 1000))}, 1<<16)...)
	long := slices.Repeat(words(1, "a b"), 1<<16)
	for i, u := range []api.Unit{deep, wide} {
		for _, f := range functions() {
			l, errno := f.run(call{u: u, id: number(2), parent: number(1), at: math.MaxInt, x: u, label: strings.Repeat("1", 1<<16), words: long})
			if errno != api.ErrArg || slices.ContainsFunc(l, func(u api.Unit) bool { return !isZero(u) }) {
				t.Error(i, f.name, errno)
			}
		}
		if treeedit.CanInsert(sample(), api.Id{}, u) != api.ErrArg || treeedit.CanInsert(u, number(1), unitOf(100, api.Note, "1")) != api.ErrArg {
			t.Error(i)
		}
	}
	if _, errno := treeedit.SetWords(sample(), number(1), long...); errno != api.ErrArg {
		t.Error(errno)
	}
}

// Arguments and memory

// spoil overwrites everything in a tree, up to the capacities.
func spoil(u api.Unit) {
	spoilWords(u.Head)
	spoilWords(u.Words)
	kids := u.Kids[:cap(u.Kids)]
	for i := range kids {
		spoil(kids[i])
		kids[i] = api.Unit{Label: "spoiled"}
	}
}

// spoilWords overwrites words up to the capacity.
func spoilWords(l []api.Word) {
	l = l[:cap(l)]
	for i := range l {
		l[i] = api.Word{Text: "spoiled"}
	}
}

// roomy returns a copy of the tree whose lists have spare capacity.
func roomy(u api.Unit) api.Unit {
	u.Head, u.Words = roomyWords(u.Head), roomyWords(u.Words)
	kids := make([]api.Unit, 0, len(u.Kids)+3)
	for _, kid := range u.Kids {
		kids = append(kids, roomy(kid))
	}
	u.Kids = kids
	return u
}

// roomyWords returns a copy of the words that has spare capacity.
func roomyWords(l []api.Word) []api.Word { return append(make([]api.Word, 0, len(l)+3), l...) }

// unused reports whether the spare capacity of all lists of the tree is unused.
func unused(u api.Unit) bool {
	for _, l := range [][]api.Word{u.Head, u.Words} {
		if slices.ContainsFunc(l[len(l):cap(l)], func(w api.Word) bool { return w != api.Word{} }) {
			return false
		}
	}
	return !slices.ContainsFunc(u.Kids[len(u.Kids):cap(u.Kids)], func(kid api.Unit) bool { return !isZero(kid) }) && !slices.ContainsFunc(u.Kids, func(kid api.Unit) bool { return !unused(kid) })
}

// sameCall reports whether the trees and words of both calls are equal.
func sameCall(a, b call) bool {
	return unit.Equal(a.u, b.u) && unit.Equal(a.x, b.x) && slices.Equal(a.words, b.words)
}

// TestArgumentsAndResults changes each result, up to its capacities, and looks at the arguments, then the arguments, and looks at the results.
func TestArgumentsAndResults(t *testing.T) {
	for _, id := range []int{2, 3, 6, 15, 16} {
		for _, parent := range []api.Id{{}, number(1), number(2), number(3), number(14), number(17)} {
			for _, kind := range []int{api.Section, api.Para} {
				x := worded(unitOf(100, kind, "50", unitOf(101, api.Para, "1", unitOf(102, api.Note, "1")), unitOf(103, api.Note, "1")))
				for at := range 3 {
					for _, f := range functions() {
						checkMemory(t, f, call{u: sample(), id: number(id), parent: parent, at: at, x: x, label: "70", words: words(7, "p", "q")})
					}
				}
			}
		}
	}
}

// checkMemory makes a call, with changes to its results and arguments.
func checkMemory(t *testing.T, f function, c call) {
	t.Helper()
	want := c.clone()
	c.u, c.x, c.words = roomy(c.u), roomy(c.x), roomyWords(c.words)
	one, errno := f.run(c)
	two, _ := f.run(c)
	treeedit.CanInsert(c.u, c.parent, c.x)
	if !sameCall(c, want) || !unused(c.u) || !unused(c.x) || slices.ContainsFunc(c.words[len(c.words):cap(c.words)], func(w api.Word) bool { return w != api.Word{} }) {
		t.Fatal(f.name, "modifies an argument")
	}
	if errno != api.OK {
		return
	}
	results := f.edit(want.clone())
	for i := range one {
		spoil(one[i])
		if !sameCall(c, want) || !unused(c.u) || !unused(c.x) {
			t.Fatal(f.name, i, "shares memory with an argument")
		}
		for k := i + 1; k < len(one); k++ {
			if !unit.Equal(one[k], results[k]) {
				t.Fatal(f.name, i, k, "results share memory")
			}
		}
	}
	spoil(c.u)
	spoil(c.x)
	spoilWords(c.words)
	for i := range two {
		if !unit.Equal(two[i], results[i]) {
			t.Fatal(f.name, i, "keeps an argument, or shares memory with another result")
		}
		checkParts(t, f, two[i])
	}
}

// checkParts changes the lists of each unit of a result, and looks at the other units.
func checkParts(t *testing.T, f function, u api.Unit) {
	t.Helper()
	before := copyOf(u)
	old := nodes(&before)
	for i, part := range nodes(&u) {
		spoilWords(part.Head)
		spoilWords(part.Words)
		copy(part.Head, old[i].Head)
		copy(part.Words, old[i].Words)
		if !unit.Equal(u, before) {
			t.Fatal(f.name, i, "the parts of a result share memory")
		}
	}
}
