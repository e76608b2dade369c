package ptree_test

import (
	"fmt"
	"math"
	"math/rand"
	"slices"
	"strings"
	"testing"

	"pandect/api"
	"pandect/ptree"
	"pandect/treeedit"
	"pandect/unit"
)

// number returns the ID that ends in n.
func number(n int) api.Id { return api.Id{Act: 3, Item: 1, N: n} }

// unknown is an ID that no tree of these tests has.
var unknown = api.Id{Act: 1, Item: 3, N: 1}

// unitOf returns a unit whose ID ends in n, or that has no ID if n is 0.
func unitOf(n, kind int, label string, kids ...api.Unit) api.Unit {
	u := api.Unit{Kind: kind, Label: label, Kids: kids}
	if n != 0 {
		u.Id = number(n)
	}
	return u
}

// book returns a book with the kids.
func book(kids ...api.Unit) api.Unit { return unitOf(0, api.Book, "", kids...) }

// many returns n units of the kind with the labels from 1 on, and with IDs that end in from and the following numbers.
func many(n, from, kind int) []api.Unit {
	var l []api.Unit
	for i := range n {
		l = append(l, unitOf(from+i, kind, fmt.Sprint(i+1)))
	}
	return l
}

// chain returns units nested in each other; their IDs end in from and the following numbers.
func chain(from int, label string, kinds ...int) api.Unit {
	u := unitOf(from, kinds[0], label)
	if len(kinds) > 1 {
		u.Kids = []api.Unit{chain(from+1, "1", kinds[1:]...)}
	}
	return u
}

// paras returns n times the kind of paragraphs.
func paras(n int) []int { return slices.Repeat([]int{api.Para}, n) }

// words returns words with marks.
func words(act int, l ...string) []api.Word {
	var out []api.Word
	for i, s := range l {
		out = append(out, api.Word{Text: s, By: api.Mark{Act: act, Item: 1, At: i}})
	}
	return out
}

// copyOf returns a copy that shares nothing with u.
func copyOf(u api.Unit) api.Unit {
	u.Head, u.Words, u.Kids = slices.Clone(u.Head), slices.Clone(u.Words), slices.Clone(u.Kids)
	for i := range u.Kids {
		u.Kids[i] = copyOf(u.Kids[i])
	}
	return u
}

// nodes returns pointers to all units of a tree that shares nothing within itself, in document order.
func nodes(u *api.Unit) []*api.Unit {
	l := []*api.Unit{u}
	for i := range u.Kids {
		l = append(l, nodes(&u.Kids[i])...)
	}
	return l
}

// worded returns the tree with a heading and words, which differ, in every unit but a book.
func worded(u api.Unit) api.Unit {
	u = copyOf(u)
	for i, x := range nodes(&u) {
		if x.Kind != api.Book {
			x.Head, x.Words = words(i, "head", fmt.Sprint(i)), words(-i, "text", fmt.Sprint(i), "text")
		}
	}
	return u
}

// sample returns an editable book with all kinds of units.
func sample() api.Unit {
	return worded(book(
		unitOf(1, api.Part, "1",
			unitOf(2, api.Section, "1", unitOf(3, api.Para, "1", unitOf(4, api.Para, "1", unitOf(5, api.Note, "1"))), unitOf(6, api.Para, "2")),
			unitOf(7, api.Section, "2")),
		unitOf(8, api.Section, "1", unitOf(9, api.Table, "1", unitOf(10, api.Row, "1", unitOf(11, api.Cell, "1"), unitOf(12, api.Cell, "2")), unitOf(13, api.Row, "2"))),
		unitOf(14, api.Section, "3", unitOf(15, api.Para, "3"), unitOf(16, api.Note, "1")),
		unitOf(17, api.Part, "2")))
}

// deepest returns a book with two parts and the longest chains of units below them: those at depth d have the IDs that end in d and 20+d.
func deepest() api.Unit {
	kinds := slices.Concat([]int{api.Part, api.Section}, paras(6))
	return worded(book(chain(1, "1", kinds...), chain(21, "2", kinds...)))
}

// largest returns a book of n units with sections of at most 64 paragraphs, to which a paragraph can be added below section 1.
func largest(n int) api.Unit {
	u := book(unitOf(1, api.Section, "1"))
	left := n - 2
	for s := 2; left > 0; s++ {
		kids := min(left-1, 64)
		u.Kids = append(u.Kids, unitOf(100*s, api.Section, fmt.Sprint(s), many(kids, 100*s+1, api.Para)...))
		left -= 1 + kids
	}
	return u
}

// makeTree returns the tree with the content u.
func makeTree(t *testing.T, u api.Unit) *ptree.Tree {
	t.Helper()
	tree := ptree.New(u)
	if tree == nil {
		t.Fatal("not editable:", u)
	}
	return tree
}

// isZero reports whether the unit is the zero unit.
func isZero(u api.Unit) bool { return unit.Equal(u, api.Unit{}) }

// The model: an update is the treeedit function of the same name, and the new nodes are those of 'New nodes of an update'.

// call contains the arguments of any update.
type call struct {
	name       string
	id, parent api.Id
	at         int
	x          api.Unit
	label      string
	words      []api.Word
}

var names = []string{"Insert", "Remove", "Move", "Relabel", "SetWords", "SetHeading"}

// clone returns a copy of the call that shares nothing with it.
func (c call) clone() call {
	c.x, c.words = copyOf(c.x), slices.Clone(c.words)
	return c
}

// equal reports whether the calls have equal arguments.
func (c call) equal(d call) bool { return unit.Equal(c.x, d.x) && slices.Equal(c.words, d.words) }

// run calls the update of the tree.
func (c call) run(t *ptree.Tree) (*ptree.Tree, api.Errno) {
	switch c.name {
	case "Insert":
		return t.Insert(c.parent, c.at, c.x)
	case "Remove":
		return t.Remove(c.id)
	case "Move":
		return t.Move(c.id, c.parent, c.at)
	case "Relabel":
		return t.Relabel(c.id, c.label)
	case "SetWords":
		return t.SetWords(c.id, c.words...)
	}
	return t.SetHeading(c.id, c.words...)
}

// edit calls the treeedit function.
func (c call) edit(u api.Unit) (api.Unit, api.Errno) {
	switch c.name {
	case "Insert":
		return treeedit.Insert(u, c.parent, c.at, c.x)
	case "Remove":
		rest, _, errno := treeedit.Remove(u, c.id)
		return rest, errno
	case "Move":
		return treeedit.Move(u, c.id, c.parent, c.at)
	case "Relabel":
		return treeedit.Relabel(u, c.id, c.label)
	case "SetWords":
		return treeedit.SetWords(u, c.id, c.words...)
	}
	return treeedit.SetHeading(u, c.id, c.words...)
}

// pathTo returns the IDs of the units from the unit id up to the root.
func pathTo(u api.Unit, id api.Id) []api.Id { return append([]api.Id{id}, unit.Ancestors(u, id)...) }

// newNodes returns the IDs of the units for which the update of a tree with the content u creates nodes.
func (c call) newNodes(u api.Unit) map[api.Id]bool {
	var l []api.Id
	switch c.name {
	case "Insert":
		l = append(pathTo(u, c.parent), unit.IDs(c.x)...)
	case "Remove":
		l = unit.Ancestors(u, c.id)
	case "Move":
		l = append(unit.Ancestors(u, c.id), pathTo(u, c.parent)...)
	default:
		l = pathTo(u, c.id)
	}
	set := map[api.Id]bool{}
	for _, id := range l {
		set[id] = true
	}
	return set
}

// inserted returns the number of units that the update inserts.
func (c call) inserted() int {
	if c.name == "Insert" {
		return unit.Count(c.x)
	}
	return 0
}

// check compares an update of a tree with the model, and returns the new tree and the error.
func check(t *testing.T, tree *ptree.Tree, c call) (*ptree.Tree, api.Errno) {
	t.Helper()
	before, args := tree.Unit(), c.clone()
	want, wantErrno := c.edit(before)
	got, errno := c.run(tree)
	if errno != wantErrno || (got == nil) != (errno != api.OK) {
		t.Fatal(c.name, c.id, c.parent, c.at, ": error", errno, "want", wantErrno, got == nil)
	}
	if !c.equal(args) || !unit.Equal(tree.Unit(), before) || tree.Len() != unit.Count(before) {
		t.Error(c.name, "changes an argument or the receiver")
	}
	if errno != api.OK {
		return nil, errno
	}
	if !unit.Equal(got.Unit(), want) || got.Len() != unit.Count(want) {
		t.Error(c.name, "yields", got.Unit(), "want", want)
	}
	n := len(c.newNodes(before))
	shared := got.Len() - n
	if got.NewNodes(tree) != n || tree.NewNodes(got) != tree.Len()-shared {
		t.Error(c.name, c.id, c.parent, ":", got.NewNodes(tree), "new nodes, want", n, "; not shared", tree.NewNodes(got), "want", tree.Len()-shared)
	}
	limit := 9 + c.inserted()
	if c.name == "Move" {
		limit = 17
	}
	if n > limit {
		t.Error(c.name, n, "new nodes")
	}
	return got, errno
}

// expect compares an update with the model, and its error with the given one.
func expect(t *testing.T, tree *ptree.Tree, c call, want api.Errno) *ptree.Tree {
	t.Helper()
	got, errno := check(t, tree, c)
	if errno != want {
		t.Fatal(c.name, c.id, c.parent, c.at, ": error", errno, "want", want)
	}
	return got
}

// P15.1

// checkContent compares a tree with its content.
func checkContent(t *testing.T, tree *ptree.Tree, u api.Unit) {
	t.Helper()
	if !unit.Equal(tree.Unit(), u) || tree.Len() != unit.Count(u) || tree.NewNodes(nil) != unit.Count(u) {
		t.Error(tree.Unit(), tree.Len(), u)
	}
	for _, id := range append(unit.IDs(u), unknown, api.Id{}, number(-1), api.Id{Act: 3, Item: 1}) {
		want, wantOK := unit.Find(u, id)
		if got, ok := tree.Get(id); ok != wantOK || !unit.Equal(got, want) {
			t.Error(id, got, ok)
		}
	}
}

func TestExample(t *testing.T) {
	tree := makeTree(t, book(unitOf(1, api.Section, "1", unitOf(2, api.Para, "1"))))
	for n, want := range map[int]int{2: 3, 1: 2} {
		after, errno := tree.SetWords(number(n), words(2, "a")...)
		if errno != api.OK || after.NewNodes(tree) != want {
			t.Error(n, errno, after.NewNodes(tree))
		}
	}
}

func TestContent(t *testing.T) {
	wide := book(unitOf(1, api.Section, "1", many(64, 10, api.Para)...))
	for _, u := range []api.Unit{book(), sample(), deepest(), wide, book(many(64, 1, api.Section)...), largest(1023), largest(1024), sample().Kids[0], sample().Kids[1].Kids[0]} {
		checkContent(t, makeTree(t, u), u)
	}
	for kind := api.Part; kind <= api.Note; kind++ {
		u := worded(unitOf(1, kind, "9999ZZZ"))
		checkContent(t, makeTree(t, u), u)
	}
	full := unitOf(1, api.Section, "1")
	full.Head, full.Words = slices.Repeat(words(1, strings.Repeat("w", 24)), 256), slices.Repeat(words(2, "~"), 256)
	checkContent(t, makeTree(t, book(full)), book(full))
}

func TestGet(t *testing.T) {
	u := sample()
	tree := makeTree(t, u)
	for _, c := range []struct {
		id   api.Id
		want api.Unit
	}{{api.Id{}, u}, {number(1), u.Kids[0]}, {number(5), u.Kids[0].Kids[0].Kids[0].Kids[0].Kids[0]}, {number(8), u.Kids[1]}, {number(13), u.Kids[1].Kids[0].Kids[1]}, {number(17), u.Kids[3]}} {
		if got, ok := tree.Get(c.id); !ok || !unit.Equal(got, c.want) {
			t.Error(c.id, got, ok)
		}
	}
	for _, id := range []api.Id{unknown, number(18), number(-1), {Act: 3, N: 1}, {Act: 3, Item: 1}, {Act: math.MinInt, Item: math.MaxInt}} {
		if got, ok := tree.Get(id); ok || !isZero(got) {
			t.Error(id, got)
		}
	}
	if got, ok := makeTree(t, u.Kids[1]).Get(api.Id{}); ok || !isZero(got) { // no book, so that no unit has the zero ID
		t.Error(got)
	}
}

// TestNegativeIDs makes trees with IDs and marks of any numbers.
func TestNegativeIDs(t *testing.T) {
	odd := []api.Id{{Act: -1}, {Item: -1}, {N: -1}, {Act: math.MinInt, Item: math.MaxInt, N: math.MinInt}, {Act: math.MinInt, Item: math.MaxInt}}
	u := book()
	for i, id := range odd {
		u.Kids = append(u.Kids, api.Unit{Id: id, Kind: api.Section, Label: fmt.Sprint(i + 1), Words: []api.Word{{Text: "w", By: api.Mark{Act: math.MinInt, At: -i}}}})
	}
	tree := makeTree(t, u)
	checkContent(t, tree, u)
	for _, id := range odd {
		expect(t, tree, call{name: "Remove", id: id}, api.OK)
		expect(t, tree, call{name: "SetWords", id: id, words: words(math.MinInt, "x")}, api.OK)
	}
}

// TestNotEditable spoils every unit of a tree in each way that keeps the tree from being editable.
func TestNotEditable(t *testing.T) {
	spoilers := map[string]func(u *api.Unit){
		"negative kind":   func(u *api.Unit) { u.Kind = -1 },
		"undefined kind":  func(u *api.Unit) { u.Kind = 8 },
		"empty label":     func(u *api.Unit) { u.Kind, u.Label = max(u.Kind, api.Part), "" },
		"invalid label":   func(u *api.Unit) { u.Label = "01" },
		"empty word":      func(u *api.Unit) { u.Words = append(u.Words, api.Word{}) },
		"bad word":        func(u *api.Unit) { u.Words = words(1, "a b") },
		"long word":       func(u *api.Unit) { u.Head = words(1, strings.Repeat("w", 25)) },
		"foreign word":    func(u *api.Unit) { u.Head = words(1, "\x7f") },
		"many words":      func(u *api.Unit) { u.Words = slices.Repeat(words(1, "w"), 257) },
		"long heading":    func(u *api.Unit) { u.Head = slices.Repeat(words(1, "w"), 257) },
		"many kids":       func(u *api.Unit) { u.Kids = many(65, 1000, childOf(u.Kind)) },
		"wrong kid":       func(u *api.Unit) { u.Kids = append(u.Kids, unitOf(1000, u.Kind+3, "70")) },
		"book inside":     func(u *api.Unit) { u.Kids = append(u.Kids, book()) },
		"twins":           func(u *api.Unit) { u.Kids = append(many(1, 1000, childOf(u.Kind)), many(1, 1001, childOf(u.Kind))...) },
		"too deep":        func(u *api.Unit) { u.Kids = append(u.Kids, chain(1000, "70", paras(9)...)) },
		"too many units":  func(u *api.Unit) { u.Kids = append(u.Kids, largest(1024).Kids...) },
		"ID twice":        func(u *api.Unit) { u.Kids = append(u.Kids, unitOf(7, childOf(u.Kind), "70")) },
		"ID of its kid":   func(u *api.Unit) { u.Id = number(1000); u.Kids = many(1, 1000, childOf(u.Kind)) },
		"kid without ID":  func(u *api.Unit) { u.Kids = append(u.Kids, unitOf(0, childOf(u.Kind), "70")) },
		"all without IDs": func(u *api.Unit) { *u = unit.Strip(*u); u.Kids = append(u.Kids, unitOf(0, childOf(u.Kind), "70")) },
	}
	for name, spoil := range spoilers {
		for i := range unit.Count(sample()) {
			u := sample()
			spoil(nodes(&u)[i])
			if ptree.New(u) != nil {
				t.Error(name, i)
			}
			if _, errno := makeTree(t, book()).Insert(api.Id{}, 0, u); errno != api.ErrArg {
				t.Error(name, i, errno)
			}
		}
	}
	withID, labeled, headed := book(), book(), book()
	withID.Id, labeled.Label, headed.Head = number(1), "1", words(1, "w")
	for i, u := range []api.Unit{withID, labeled, headed, unitOf(0, api.Section, "1"), unitOf(0, api.Section, "1", unitOf(1, api.Para, "1")), largest(1025), chain(1, "1", paras(10)...), {Kind: api.Book, Words: words(1, "w")}, unit.Strip(sample()), unit.Strip(sample().Kids[0])} {
		if ptree.New(u) != nil {
			t.Error(i)
		}
	}
}

// childOf returns a kind of units that a unit of the kind can contain, or the kind of notes.
func childOf(kind int) int {
	for kid := range api.Note {
		if unit.CanContain(kind, kid) {
			return kid
		}
	}
	return api.Note
}

// TestZeroTree uses a Tree that New has not made: the content is the zero unit, which is an empty book.
func TestZeroTree(t *testing.T) {
	tree := &ptree.Tree{}
	checkContent(t, tree, book())
	if tree.NewNodes(tree) != 0 || tree.NewNodes(&ptree.Tree{}) != 1 {
		t.Error(tree.NewNodes(tree))
	}
	expect(t, tree, call{name: "Insert", x: sample().Kids[1]}, api.OK)
	expect(t, tree, call{name: "Remove"}, api.ErrKind)
	expect(t, tree, call{name: "Move", id: number(1)}, api.ErrMissing)
}

// P15.2

// row is a row of the table of errors of layer 8: whether it applies to a call.
type row struct {
	errno   api.Errno
	applies bool
}

// rows returns the rows of the table for the update of an editable tree.
func (c call) rows(u api.Unit) []row {
	switch c.name {
	case "Insert":
		return c.insertRows(u)
	case "Move":
		return c.moveRows(u)
	}
	x, ok := unit.Find(u, c.id)
	if c.name == "Remove" {
		return []row{{api.ErrMissing, !ok}, {api.ErrKind, c.id == u.Id}}
	}
	isBook := ok && x.Kind == api.Book
	if c.name == "Relabel" {
		valid := unit.Valid(unitOf(0, api.Note, c.label)) // a note is valid if its label is
		parent, _, below := unit.Parent(u, c.id)
		p, _ := unit.Find(u, parent)
		return []row{{api.ErrArg, !valid}, {api.ErrMissing, !ok}, {api.ErrKind, isBook}, {api.ErrDuplicateLabel, ok && (x.Label == c.label || below && isTaken(p, x.Kind, c.label))}}
	}
	bad := slices.ContainsFunc(c.words, func(w api.Word) bool {
		return w.Text == "" || len(w.Text) > 24 || strings.ContainsFunc(w.Text, func(r rune) bool { return r < 33 || r > 126 })
	})
	return []row{{api.ErrArg, bad}, {api.ErrMissing, !ok}, {api.ErrKind, isBook}, {api.ErrFull, len(c.words) > 256}}
}

// isTaken reports whether a kid of the unit has that kind and label.
func isTaken(p api.Unit, kind int, label string) bool {
	return slices.ContainsFunc(p.Kids, func(kid api.Unit) bool { return kid.Kind == kind && kid.Label == label })
}

func (c call) insertRows(u api.Unit) []row {
	p, ok := unit.Find(u, c.parent)
	level := len(unit.Ancestors(u, c.parent))
	ids := unit.IDs(u)
	return []row{
		{api.ErrArg, ptree.New(c.x) == nil || c.x.Kind == api.Book},
		{api.ErrMissing, !ok},
		{api.ErrKind, ok && !unit.CanContain(p.Kind, c.x.Kind)},
		{api.ErrRange, ok && (c.at < 0 || c.at > len(p.Kids))},
		{api.ErrDuplicateLabel, ok && isTaken(p, c.x.Kind, c.x.Label)},
		{api.ErrFull, ok && (len(p.Kids) >= 64 || level+1+unit.Depth(c.x) > 8) || unit.Count(u)+unit.Count(c.x) > 1024},
		{api.ErrExists, slices.ContainsFunc(unit.IDs(c.x), func(id api.Id) bool { return slices.Contains(ids, id) })},
	}
}

func (c call) moveRows(u api.Unit) []row {
	x, found := unit.Find(u, c.id)
	p, ok := unit.Find(u, c.parent)
	p.Kids = slices.DeleteFunc(p.Kids, func(kid api.Unit) bool { return kid.Id == c.id })
	_, inside := unit.Find(x, c.parent)
	level := len(unit.Ancestors(u, c.parent))
	both := found && ok
	return []row{
		{api.ErrMissing, !both},
		{api.ErrKind, c.id == u.Id || both && (inside || !unit.CanContain(p.Kind, x.Kind))},
		{api.ErrRange, ok && (c.at < 0 || c.at > len(p.Kids))},
		{api.ErrDuplicateLabel, both && isTaken(p, x.Kind, x.Label)},
		{api.ErrFull, ok && len(p.Kids) >= 64 || both && level+1+unit.Depth(x) > 8},
	}
}

// pair is a pair of errors of an update.
type pair struct {
	name          string
	first, second api.Errno
}

// errorCase is an update of a tree with the content u, and the error to be expected.
type errorCase struct {
	u    api.Unit
	call call
	want api.Errno
}

// expectAll expects the errors of the cases, and that the cases include one for each single row and for each pair of rows, with no other row that applies; the impossible pairs excepted.
func expectAll(t *testing.T, cases []errorCase, impossible ...pair) {
	t.Helper()
	seen := map[pair]bool{} // with the same error twice for a single row
	all := map[string][]row{}
	for i, c := range cases {
		var l []api.Errno
		all[c.call.name] = c.call.rows(c.u)
		for _, r := range all[c.call.name] {
			if r.applies {
				l = append(l, r.errno)
			}
		}
		if first := append(slices.Clone(l), api.OK)[0]; first != c.want {
			t.Error(i, "the rows that apply are", l, "want", c.want)
		}
		if n := len(l); n == 1 || n == 2 {
			seen[pair{c.call.name, l[0], l[n-1]}] = true
		}
		expect(t, makeTree(t, c.u), c.call, c.want)
	}
	for name, l := range all {
		for i, a := range l {
			for _, b := range l[i:] {
				if p := (pair{name, a.errno, b.errno}); seen[p] == slices.Contains(impossible, p) {
					t.Error("calls with", p, ":", seen[p])
				}
			}
		}
	}
}

// crowded returns the sample with a section 3 that has 64 kids, and with a unit of the greatest depth, whose ID ends in 36.
func crowded() api.Unit {
	u := sample()
	u.Kids[2].Kids = append(many(63, 100, api.Para), unitOf(200, api.Note, "1"))
	u.Kids[3].Kids = []api.Unit{chain(30, "1", slices.Concat([]int{api.Section}, paras(6))...)}
	return u
}

// TestInsertErrors inserts units with each error and each two errors.
func TestInsertErrors(t *testing.T) {
	u, large := crowded(), largest(1024)
	section, tail := unitOf(500, api.Section, "9"), unitOf(501, api.Para, "1")
	badTwin := unitOf(500, api.Section, "1")
	badTwin.Words = words(1, "a b")
	insert := func(parent api.Id, at int, x api.Unit) call {
		return call{name: "Insert", parent: parent, at: at, x: x}
	}
	expectAll(t, []errorCase{
		{u, insert(api.Id{}, 0, section), api.OK},
		{u, insert(api.Id{}, 4, unitOf(500, api.Section, "9", tail)), api.OK},
		{u, insert(number(35), 0, unitOf(500, api.Para, "9")), api.OK},
		{largest(1023), insert(number(1), 0, unitOf(5000, api.Para, "9")), api.OK},

		{u, insert(api.Id{}, 0, unitOf(0, api.Section, "9")), api.ErrArg},
		{u, insert(api.Id{}, 0, book()), api.ErrArg},
		{u, insert(api.Id{}, 0, book(section)), api.ErrArg},
		{u, insert(api.Id{}, 0, unitOf(500, api.Section, "09")), api.ErrArg},
		{u, insert(unknown, 0, unitOf(500, api.Section, "09")), api.ErrArg},
		{u, insert(number(5), 0, unitOf(500, api.Section, "09")), api.ErrArg},
		{u, insert(api.Id{}, 5, unitOf(500, api.Section, "09")), api.ErrArg},
		{u, insert(api.Id{}, 0, badTwin), api.ErrArg},
		{u, insert(number(14), 0, unitOf(500, api.Para, "099")), api.ErrArg},
		{u, insert(api.Id{}, 0, unitOf(1, api.Section, "09")), api.ErrArg},

		{u, insert(unknown, 0, section), api.ErrMissing},
		{large, insert(unknown, 0, unitOf(5000, api.Section, "9")), api.ErrMissing},
		{u, insert(unknown, 0, unitOf(1, api.Section, "9")), api.ErrMissing},

		{u, insert(number(5), 0, section), api.ErrKind},
		{u, insert(api.Id{}, -1, unitOf(500, api.Row, "1")), api.ErrKind},
		{u, insert(number(14), 0, unitOf(500, api.Row, "1")), api.ErrKind},
		{u, insert(api.Id{}, 0, unitOf(1, api.Row, "1")), api.ErrKind},

		{u, insert(api.Id{}, -1, section), api.ErrRange},
		{u, insert(api.Id{}, 5, section), api.ErrRange},
		{u, insert(api.Id{}, math.MinInt, section), api.ErrRange},
		{u, insert(api.Id{}, math.MaxInt, section), api.ErrRange},
		{u, insert(api.Id{}, 5, unitOf(500, api.Section, "1")), api.ErrRange},
		{u, insert(number(14), 65, unitOf(500, api.Para, "99")), api.ErrRange},
		{u, insert(api.Id{}, 5, unitOf(1, api.Section, "9")), api.ErrRange},

		{u, insert(api.Id{}, 0, unitOf(500, api.Section, "1")), api.ErrDuplicateLabel},
		{u, insert(number(14), 0, unitOf(500, api.Para, "1")), api.ErrDuplicateLabel},
		{u, insert(api.Id{}, 0, unitOf(8, api.Section, "1")), api.ErrDuplicateLabel},

		{u, insert(number(14), 64, unitOf(500, api.Para, "99")), api.ErrFull},
		{u, insert(number(36), 0, unitOf(500, api.Para, "9")), api.ErrFull},
		{u, insert(number(17), 0, chain(500, "9", slices.Concat([]int{api.Section}, paras(7))...)), api.ErrFull},
		{large, insert(number(1), 0, unitOf(5000, api.Para, "9")), api.ErrFull},
		{largest(1023), insert(number(1), 0, unitOf(5000, api.Para, "9", unitOf(5001, api.Note, "1"))), api.ErrFull},
		{u, insert(number(14), 0, unitOf(1, api.Para, "99")), api.ErrFull},

		{u, insert(api.Id{}, 0, unitOf(1, api.Section, "9")), api.ErrExists},
		{u, insert(api.Id{}, 0, unitOf(500, api.Section, "9", unitOf(5, api.Para, "1"))), api.ErrExists},
	}, pair{"Insert", api.ErrMissing, api.ErrKind}, pair{"Insert", api.ErrMissing, api.ErrRange}, pair{"Insert", api.ErrMissing, api.ErrDuplicateLabel}, pair{"Insert", api.ErrKind, api.ErrDuplicateLabel})
}

// TestMoveErrors moves units with each error and each two errors.
func TestMoveErrors(t *testing.T) {
	u := crowded()
	move := func(id, parent api.Id, at int) call { return call{name: "Move", id: id, parent: parent, at: at} }
	expectAll(t, []errorCase{
		{u, move(number(6), number(3), 0), api.OK},
		{u, move(number(3), number(2), 1), api.OK},
		{u, move(number(100), number(14), 63), api.OK}, // full with the unit, but not without it

		{u, move(unknown, number(3), 0), api.ErrMissing},
		{u, move(number(3), unknown, 0), api.ErrMissing},
		{u, move(unknown, unknown, 0), api.ErrMissing},
		{u, move(api.Id{}, unknown, 0), api.ErrMissing},
		{u, move(unknown, number(3), -1), api.ErrMissing},
		{u, move(unknown, number(14), 0), api.ErrMissing},

		{u, move(api.Id{}, number(1), 0), api.ErrKind},
		{u, move(api.Id{}, api.Id{}, 0), api.ErrKind},
		{u, move(number(3), number(4), 0), api.ErrKind},
		{u, move(number(2), number(5), 0), api.ErrKind},
		{u, move(number(9), number(9), 0), api.ErrKind},
		{u, move(number(6), number(1), 0), api.ErrKind},
		{u, move(number(6), number(1), -1), api.ErrKind},
		{u, move(number(3), number(3), 0), api.ErrKind}, // whose kid has its kind and label
		{u, move(number(13), number(14), 0), api.ErrKind},

		{u, move(number(6), number(2), 2), api.ErrRange},
		{u, move(number(6), number(2), -1), api.ErrRange},
		{u, move(number(6), number(3), 2), api.ErrRange},
		{u, move(number(100), number(14), 64), api.ErrRange},
		{u, move(number(4), number(2), math.MaxInt), api.ErrRange},
		{u, move(number(9), number(14), 65), api.ErrRange},

		{u, move(number(4), number(2), 0), api.ErrDuplicateLabel},
		{u, move(number(6), number(14), 0), api.ErrDuplicateLabel},

		{u, move(number(9), number(14), 0), api.ErrFull},
		{u, move(number(31), number(6), 0), api.ErrFull},
	}, pair{"Move", api.ErrMissing, api.ErrDuplicateLabel})
}

// TestOtherErrors makes the other updates with each error and each two errors.
func TestOtherErrors(t *testing.T) {
	u := crowded()
	remove := func(id api.Id) call { return call{name: "Remove", id: id} }
	expectAll(t, []errorCase{
		{u, remove(number(5)), api.OK}, {u, remove(number(1)), api.OK},
		{u, remove(unknown), api.ErrMissing},
		{u, remove(api.Id{}), api.ErrKind}, {u.Kids[0], remove(number(1)), api.ErrKind},
		{u.Kids[0], remove(api.Id{}), api.ErrMissing},
	}, pair{"Remove", api.ErrMissing, api.ErrKind})

	relabel := func(id api.Id, label string) call { return call{name: "Relabel", id: id, label: label} }
	expectAll(t, []errorCase{
		{u, relabel(number(6), "3"), api.OK}, {u.Kids[0], relabel(number(1), "2"), api.OK},
		{u, relabel(number(6), "03"), api.ErrArg}, {u, relabel(number(6), ""), api.ErrArg}, {u, relabel(number(6), "3a"), api.ErrArg},
		{u, relabel(unknown, "03"), api.ErrArg}, {u, relabel(api.Id{}, "03"), api.ErrArg}, {u, relabel(api.Id{}, ""), api.ErrArg},
		{u, relabel(unknown, "3"), api.ErrMissing},
		{u, relabel(api.Id{}, "3"), api.ErrKind},
		{u, relabel(number(6), "2"), api.ErrDuplicateLabel}, {u, relabel(number(6), "1"), api.ErrDuplicateLabel}, {u.Kids[0], relabel(number(1), "1"), api.ErrDuplicateLabel},
	}, pair{"Relabel", api.ErrArg, api.ErrDuplicateLabel}, pair{"Relabel", api.ErrMissing, api.ErrKind}, pair{"Relabel", api.ErrMissing, api.ErrDuplicateLabel}, pair{"Relabel", api.ErrKind, api.ErrDuplicateLabel})

	long := slices.Repeat(words(1, "w"), 257)
	longBad := append(slices.Clone(long), api.Word{})
	for _, name := range []string{"SetWords", "SetHeading"} {
		set := func(id api.Id, l ...api.Word) call { return call{name: name, id: id, words: l} }
		expectAll(t, []errorCase{
			{u, set(number(6)), api.OK}, {u, set(number(6), words(7, "a")...), api.OK}, {u, set(number(6), long[:256]...), api.OK}, {u.Kids[0], set(number(1)), api.OK},
			{u, set(number(6), words(1, "a", "b c")...), api.ErrArg}, {u, set(number(6), words(1, strings.Repeat("w", 25))...), api.ErrArg},
			{u, set(unknown, api.Word{}), api.ErrArg}, {u, set(api.Id{}, api.Word{}), api.ErrArg}, {u, set(number(6), longBad...), api.ErrArg},
			{u, set(unknown), api.ErrMissing}, {u, set(unknown, long...), api.ErrMissing},
			{u, set(api.Id{}), api.ErrKind}, {u, set(api.Id{}, long...), api.ErrKind},
			{u, set(number(6), long...), api.ErrFull},
		}, pair{name, api.ErrMissing, api.ErrKind})
	}
}

// smallTrees returns all editable trees of at most n units with the given root, the kinds Part, Section, Para and Note, and the labels 1 and 2. Their IDs end in the numbers of document order.
func smallTrees(root api.Unit, n int) []api.Unit {
	all, last := []api.Unit{root}, []api.Unit{root}
	seen := map[string]bool{}
	for range n - 1 {
		var longer []api.Unit
		for _, u := range last {
			for _, v := range withLeaf(u) {
				if key := fmt.Sprint(v); !seen[key] {
					seen[key] = true
					longer = append(longer, v)
				}
			}
		}
		all, last = append(all, longer...), longer
	}
	return all
}

// withLeaf returns the trees with one more unit, as the last kid of any unit.
func withLeaf(u api.Unit) []api.Unit {
	var out []api.Unit
	for i := range unit.Count(u) {
		for _, kind := range []int{api.Part, api.Section, api.Para, api.Note} {
			for _, label := range []string{"1", "2"} {
				v := copyOf(u)
				p := nodes(&v)[i]
				if !unit.CanContain(p.Kind, kind) || isTaken(*p, kind, label) {
					continue
				}
				p.Kids = append(p.Kids, unitOf(0, kind, label))
				for k, x := range nodes(&v) {
					if x.Kind != api.Book {
						x.Id = number(k + 1)
					}
				}
				out = append(out, v)
			}
		}
	}
	return out
}

// smallCalls returns the updates of a small tree with all IDs, labels and positions, and positions and IDs beyond them.
func smallCalls(u api.Unit) []call {
	ids := append(unit.IDs(u), unknown, api.Id{})
	var out []call
	for _, id := range ids {
		out = append(out, call{name: "Remove", id: id})
		for _, label := range []string{"", "1", "2", "3"} {
			out = append(out, call{name: "Relabel", id: id, label: label})
		}
		for _, l := range [][]api.Word{nil, words(7, "a"), words(7, "a", "b", "a"), words(7, "")} {
			out = append(out, call{name: "SetWords", id: id, words: l}, call{name: "SetHeading", id: id, words: l})
		}
		for at := -1; at <= len(ids); at++ {
			for _, x := range []api.Unit{unitOf(9, api.Section, "1", unitOf(10, api.Para, "1")), unitOf(9, api.Section, "3"), unitOf(9, api.Para, "1"), unitOf(2, api.Para, "3")} {
				out = append(out, call{name: "Insert", parent: id, at: at, x: x})
			}
			for _, parent := range ids {
				out = append(out, call{name: "Move", id: id, parent: parent, at: at})
			}
		}
	}
	return out
}

// TestSmallTrees makes all updates of all small trees.
func TestSmallTrees(t *testing.T) {
	done := map[string]int{}
	for _, root := range []api.Unit{book(), unitOf(1, api.Part, "1"), unitOf(1, api.Section, "1"), unitOf(1, api.Para, "2")} {
		for _, u := range smallTrees(root, 4) {
			tree := makeTree(t, u)
			checkContent(t, tree, u)
			for _, c := range smallCalls(u) {
				if _, errno := check(t, tree, c); errno == api.OK {
					done[c.name]++
				}
			}
		}
	}
	for _, name := range names {
		if done[name] < 500 {
			t.Error(name, done[name])
		}
	}
}

// TestInsertSubtree inserts units with descendants at every position below the root, at the greatest depths, and up to the greatest numbers of kids and units.
func TestInsertSubtree(t *testing.T) {
	x := worded(unitOf(500, api.Section, "9", unitOf(501, api.Para, "1", unitOf(502, api.Note, "1")), unitOf(503, api.Para, "2")))
	tree := makeTree(t, sample())
	for at := range 5 {
		got := expect(t, tree, call{name: "Insert", at: at, x: x}, api.OK)
		if y, ok := got.Get(number(500)); !ok || !unit.Equal(y, x) || !unit.Equal(got.Unit().Kids[at], x) || got.NewNodes(tree) != 5 {
			t.Error(at, y, ok)
		}
	}
	for level := 1; level <= 7; level++ { // the tree gets as deep as may be
		under, para := deepest(), chain(500, "9", paras(max(1, 8-level))...)
		if level == 1 {
			para = chain(500, "9", slices.Concat([]int{api.Section}, paras(6))...)
		}
		got := expect(t, makeTree(t, under), call{name: "Insert", parent: number(level), x: para}, api.OK)
		if unit.Depth(got.Unit()) != 8 {
			t.Error(level, got.Unit())
		}
	}
	kids := makeTree(t, book(unitOf(1, api.Section, "1", many(63, 10, api.Para)...)))
	kids = expect(t, kids, call{name: "Insert", parent: number(1), at: 63, x: unitOf(500, api.Para, "64")}, api.OK)
	expect(t, kids, call{name: "Insert", parent: number(1), at: 64, x: unitOf(501, api.Para, "65")}, api.ErrFull)
	units := makeTree(t, largest(1020))
	units = expect(t, units, call{name: "Insert", parent: number(1), x: unitOf(5000, api.Para, "1", many(3, 5001, api.Para)...)}, api.OK)
	expect(t, units, call{name: "Insert", parent: number(1), x: unitOf(6000, api.Para, "2")}, api.ErrFull)
	if units.Len() != 1024 {
		t.Error(units.Len())
	}
}

// TestMoves moves units of the sample to all kinds of places.
func TestMoves(t *testing.T) {
	tree := makeTree(t, sample())
	for i, c := range []struct {
		id, parent, at int
		want           api.Errno
		newNodes       int
	}{
		{3, 2, 1, api.OK, 3},      // to another place under the same parent
		{3, 2, 0, api.OK, 3},      // to the place where it stands
		{6, 2, 1, api.OK, 3},      // again, at the end
		{5, 3, 1, api.OK, 5},      // under an ancestor of its parent
		{5, 2, 2, api.OK, 5},      // further up
		{7, 0, 4, api.OK, 2},      // to the root
		{6, 3, 0, api.OK, 4},      // under a sibling
		{6, 4, 1, api.OK, 5},      // under a kid of a sibling
		{5, 6, 0, api.OK, 6},      // two paths with a common part
		{7, 17, 0, api.OK, 3},     // two paths from the root
		{3, 3, 0, api.ErrKind, 0}, // under itself
		{3, 4, 0, api.ErrKind, 0}, // under its kid
		{2, 4, 0, api.ErrKind, 0}, // under a unit further down
		{9, 4, 0, api.OK, 6},      // with its descendants
	} {
		parent := number(c.parent)
		if c.parent == 0 {
			parent = api.Id{}
		}
		got := expect(t, tree, call{name: "Move", id: number(c.id), parent: parent, at: c.at}, c.want)
		if got == nil {
			continue
		}
		moved, _ := got.Get(number(c.id))
		before, _ := tree.Get(number(c.id))
		p, _ := got.Get(parent)
		if got.NewNodes(tree) != c.newNodes || !unit.Equal(moved, before) || !unit.Equal(p.Kids[c.at], before) {
			t.Error(i, got.NewNodes(tree))
		}
	}
}

// TestRemoves removes every unit of trees.
func TestRemoves(t *testing.T) {
	for _, u := range []api.Unit{sample(), deepest(), sample().Kids[0], unitOf(1, api.Note, "1")} {
		tree := makeTree(t, u)
		for _, id := range unit.IDs(u) {
			if id == u.Id {
				expect(t, tree, call{name: "Remove", id: id}, api.ErrKind)
				continue
			}
			got := expect(t, tree, call{name: "Remove", id: id}, api.OK)
			removed, _ := unit.Find(u, id)
			for _, gone := range unit.IDs(removed) {
				if x, ok := got.Get(gone); ok || !isZero(x) {
					t.Error(id, gone)
				}
			}
			if got.NewNodes(tree) != len(unit.Ancestors(u, id)) || got.Len() != unit.Count(u)-unit.Count(removed) {
				t.Error(id, got.NewNodes(tree))
			}
		}
	}
}

// TestTexts sets labels, headings and words in every unit of trees.
func TestTexts(t *testing.T) {
	for _, u := range []api.Unit{sample(), deepest(), sample().Kids[0], unitOf(1, api.Note, "1")} {
		tree := makeTree(t, u)
		for _, id := range unit.IDs(u) {
			want := api.OK
			if id == (api.Id{}) {
				want = api.ErrKind
			}
			expect(t, tree, call{name: "Relabel", id: id, label: "70"}, want)
			x, _ := tree.Get(id)
			for _, l := range [][]api.Word{nil, words(9, "w"), x.Words, x.Head, words(9, slices.Repeat([]string{"w"}, 256)...)} {
				expect(t, tree, call{name: "SetWords", id: id, words: l}, want)
				expect(t, tree, call{name: "SetHeading", id: id, words: l}, want)
			}
		}
	}
}

// P15.3 and P15.4

// TestNewNodesByDepth counts the new nodes of updates at each depth.
func TestNewNodesByDepth(t *testing.T) {
	u := deepest()
	tree := makeTree(t, u)
	for depth := 1; depth <= 8; depth++ {
		id := number(depth)
		for _, c := range []struct {
			call call
			want int
		}{
			{call{name: "Relabel", id: id, label: "70"}, depth + 1},
			{call{name: "SetWords", id: id, words: words(9, "w")}, depth + 1},
			{call{name: "SetHeading", id: id}, depth + 1},
			{call{name: "Remove", id: id}, depth},
		} {
			if got := expect(t, tree, c.call, api.OK); got.NewNodes(tree) != c.want {
				t.Error(c.call.name, depth, got.NewNodes(tree))
			}
		}
		if depth > 1 && depth < 8 {
			got := expect(t, tree, call{name: "Insert", parent: id, x: unitOf(500, api.Para, "9")}, api.OK)
			if got.NewNodes(tree) != depth+2 {
				t.Error(depth, got.NewNodes(tree))
			}
		}
	}
	for from := 3; from <= 8; from++ { // from one chain to the other; the root is on both paths
		for to := 22; to <= 27; to++ {
			x, _ := unit.Find(u, number(from))
			if to-20+1+unit.Depth(x) > 8 {
				continue
			}
			labeled := expect(t, tree, call{name: "Relabel", id: number(from), label: "2"}, api.OK)
			got := expect(t, labeled, call{name: "Move", id: number(from), parent: number(to)}, api.OK)
			if got.NewNodes(labeled) != from+to-20 {
				t.Error(from, to, got.NewNodes(labeled))
			}
		}
	}
}

func TestNewNodes(t *testing.T) {
	u := sample()
	tree := makeTree(t, u)
	apart := makeTree(t, u)
	n := unit.Count(u)
	one := expect(t, tree, call{name: "SetWords", id: number(5), words: words(9, "w")}, api.OK)
	two := expect(t, one, call{name: "Remove", id: number(13)}, api.OK)
	three := expect(t, two, call{name: "Relabel", id: number(16), label: "2"}, api.OK)
	same := expect(t, tree, call{name: "Relabel", id: number(5), label: "2"}, api.OK)
	back := expect(t, same, call{name: "Relabel", id: number(5), label: "1"}, api.OK)
	if !unit.Equal(back.Unit(), u) {
		t.Error(back.Unit())
	}
	for i, c := range []struct {
		tree, old *ptree.Tree
		want      int
	}{
		{tree, nil, n}, {three, nil, n - 1}, {one, nil, n},
		{tree, tree, 0}, {three, three, 0},
		{tree, apart, n}, {apart, tree, n}, {three, apart, n - 1}, // equal content, other nodes
		{one, tree, 6}, {two, one, 3}, {three, two, 3},
		{tree, one, 6}, {one, two, 4}, {two, three, 3}, // against one made of it: the old nodes, and a removed unit
		{two, tree, 8}, {three, tree, 10}, {three, one, 5}, // against one of several updates ago
		{tree, two, 9}, {tree, three, 11},
		{same, one, 6}, {one, same, 6}, {back, tree, 6}, {back, same, 6}, {three, back, 10},
		{makeTree(t, book()), tree, 1}, {tree, makeTree(t, book()), n},
	} {
		if got := c.tree.NewNodes(c.old); got != c.want {
			t.Error(i, got, "want", c.want)
		}
	}
}

// version is a tree of a history with its content, and for every unit a number by which its node is known.
type version struct {
	tree    *ptree.Tree
	content api.Unit
	node    map[api.Id]int
}

// history contains versions of which any may have been updated.
type history struct {
	versions []version
	made     int // nodes
}

// add adds a version whose nodes are those of the base, except for the units with new nodes.
func (h *history) add(tree *ptree.Tree, content api.Unit, base map[api.Id]int, isNew func(id api.Id) bool) {
	v := version{tree, content, map[api.Id]int{}}
	for _, id := range unit.IDs(content) {
		v.node[id] = base[id]
		if isNew(id) {
			h.made++
			v.node[id] = h.made
		}
	}
	h.versions = append(h.versions, v)
}

// check compares all versions with what they were when they were made, and the last one with each other one.
func (h *history) check(t *testing.T) {
	t.Helper()
	last := h.versions[len(h.versions)-1]
	for i, v := range h.versions {
		if !unit.Equal(v.tree.Unit(), v.content) || v.tree.Len() != len(v.node) {
			t.Fatal("version", i, "has changed")
		}
		if got, want := last.tree.NewNodes(v.tree), differing(last.node, v.node); got != want {
			t.Fatal("against version", i, ":", got, "new nodes, want", want)
		}
		if got, want := v.tree.NewNodes(last.tree), differing(v.node, last.node); got != want {
			t.Fatal("version", i, "against the last one:", got, "new nodes, want", want)
		}
	}
}

// differing returns the number of nodes of a that are not nodes of b.
func differing(a, b map[api.Id]int) int {
	n := 0
	for id, node := range a {
		if b[id] != node {
			n++
		}
	}
	return n
}

// randomID returns the ID of a unit of the tree, or an unknown one.
func randomID(r *rand.Rand, u api.Unit) api.Id {
	if r.Intn(20) == 0 {
		return unknown
	}
	ids := unit.IDs(u)
	return ids[r.Intn(len(ids))]
}

// randomCall returns arguments for any update of a tree with the content u. The kinds of parent and kid often suit each other.
func randomCall(r *rand.Rand, u api.Unit, next int) call {
	label := func() string { return fmt.Sprint(1 + r.Intn(5)) }
	c := call{name: names[r.Intn(len(names))], id: randomID(r, u), parent: randomID(r, u), at: r.Intn(4) - r.Intn(2), label: label(), words: words(next, []string{"a", "b", "c"}[:r.Intn(4)]...)}
	kind := api.Part + r.Intn(7)
	for range 10 {
		p, _ := unit.Find(u, c.parent)
		if x, _ := unit.Find(u, c.id); !unit.CanContain(p.Kind, x.Kind) {
			c.id = randomID(r, u)
		}
		if !unit.CanContain(p.Kind, kind) {
			kind = api.Part + r.Intn(7)
		}
	}
	x := unitOf(next, kind, label())
	if kid := api.Part + r.Intn(7); unit.CanContain(kind, kid) {
		x.Kids = append(x.Kids, unitOf(next+1, kid, label()))
	}
	if r.Intn(10) == 0 {
		x.Id = number(1 + r.Intn(20)) // the ID of a unit that is there, or has been removed
	}
	c.x = worded(x)
	return c
}

// TestHistories updates any version of a tree many times, and looks at all versions after each update.
func TestHistories(t *testing.T) {
	done := map[string]int{}
	for seed := range 25 {
		r := rand.New(rand.NewSource(int64(seed)))
		h := &history{}
		for _, u := range []api.Unit{sample(), sample(), deepest(), sample().Kids[0]} {
			h.add(makeTree(t, u), u, nil, func(api.Id) bool { return true })
		}
		for n := range 150 {
			base := h.versions[r.Intn(len(h.versions))]
			if r.Intn(3) > 0 {
				base = h.versions[len(h.versions)-1]
			}
			c := randomCall(r, base.content, 1000+2*n)
			got, errno := check(t, base.tree, c)
			if errno != api.OK {
				continue
			}
			done[c.name]++
			content, _ := c.edit(base.content)
			isNew := c.newNodes(base.content)
			h.add(got, content, base.node, func(id api.Id) bool { return isNew[id] })
			h.check(t)
		}
	}
	for _, name := range names {
		if done[name] < 100 {
			t.Error(name, done[name])
		}
	}
}

// TestRemoveAndInsert removes units and inserts them again: their nodes are new, although the content is the same.
func TestRemoveAndInsert(t *testing.T) {
	u := sample()
	tree := makeTree(t, u)
	for _, id := range unit.IDs(u)[1:] {
		x, _ := tree.Get(id)
		parent, at, _ := unit.Parent(u, id)
		rest := expect(t, tree, call{name: "Remove", id: id}, api.OK)
		back := expect(t, rest, call{name: "Insert", parent: parent, at: at, x: x}, api.OK)
		if want := len(unit.Ancestors(u, id)) + unit.Count(x); !unit.Equal(back.Unit(), u) || back.NewNodes(tree) != want {
			t.Error(id, back.NewNodes(tree), want)
		}
	}
}

// Arguments and memory

// spoil overwrites everything in a tree, up to the capacities.
func spoil(u api.Unit) {
	spoilWords(u.Head)
	spoilWords(u.Words)
	kids := u.Kids[:cap(u.Kids)]
	for i := range kids {
		spoil(kids[i])
		kids[i] = api.Unit{Label: "spoiled"}
	}
}

// spoilWords overwrites words up to the capacity.
func spoilWords(l []api.Word) {
	l = l[:cap(l)]
	for i := range l {
		l[i] = api.Word{Text: "spoiled"}
	}
}

// roomy returns a copy of the tree whose lists have spare capacity.
func roomy(u api.Unit) api.Unit {
	u.Head, u.Words = roomyWords(u.Head), roomyWords(u.Words)
	kids := make([]api.Unit, 0, len(u.Kids)+3)
	for _, kid := range u.Kids {
		kids = append(kids, roomy(kid))
	}
	u.Kids = kids
	return u
}

// roomyWords returns a copy of the words that has spare capacity.
func roomyWords(l []api.Word) []api.Word { return append(make([]api.Word, 0, len(l)+3), l...) }

// isUnused reports whether the spare capacity of all lists of the tree is unused.
func isUnused(u api.Unit) bool {
	for _, l := range [][]api.Word{u.Head, u.Words} {
		if !areUnused(l) {
			return false
		}
	}
	return !slices.ContainsFunc(u.Kids[len(u.Kids):cap(u.Kids)], func(kid api.Unit) bool { return !isZero(kid) }) && !slices.ContainsFunc(u.Kids, func(kid api.Unit) bool { return !isUnused(kid) })
}

// areUnused reports whether the spare capacity of the words is unused.
func areUnused(l []api.Word) bool {
	return !slices.ContainsFunc(l[len(l):cap(l)], func(w api.Word) bool { return w != api.Word{} })
}

// TestMemory changes the argument of New, all that Unit and Get return, and the arguments of updates, and looks at all trees.
func TestMemory(t *testing.T) {
	u := roomy(sample())
	trees := []*ptree.Tree{makeTree(t, u)}
	contents := []api.Unit{sample()}
	look := func(what string) {
		t.Helper()
		for i, tree := range trees {
			if !unit.Equal(tree.Unit(), contents[i]) {
				t.Fatal(what, "change tree", i)
			}
		}
	}
	if !unit.Equal(u, sample()) || !isUnused(u) {
		t.Error("New modifies its argument")
	}
	spoil(u)
	look("changes to the argument of New")
	x := worded(unitOf(500, api.Section, "9", unitOf(501, api.Para, "1", unitOf(502, api.Note, "1")), unitOf(503, api.Note, "1")))
	for _, c := range []call{
		{name: "Insert", at: 1, x: x},
		{name: "SetWords", id: number(3), words: words(8, "p", "q")},
		{name: "SetHeading", id: number(2), words: words(8, "p")},
		{name: "Move", id: number(9), parent: number(2), at: 1},
		{name: "Remove", id: number(14)},
		{name: "Relabel", id: number(502), label: "7"},
		{name: "Move", id: number(502), parent: number(3), at: 1},
	} {
		last := len(trees) - 1
		content, errno := c.edit(contents[last])
		args := c.clone()
		c.x, c.words = roomy(c.x), roomyWords(c.words)
		tree, got := c.run(trees[last])
		if errno != api.OK || got != errno || !c.equal(args) || !isUnused(c.x) || !areUnused(c.words) {
			t.Fatal(c.name, errno, got, "or an argument is modified")
		}
		trees, contents = append(trees, tree), append(contents, content)
		look(c.name + " itself would")
		spoil(c.x)
		spoilWords(c.words)
		look("changes to the arguments of " + c.name)
		for _, tree := range trees {
			spoil(tree.Unit())
			look("changes to what Unit returned")
			for _, id := range unit.IDs(content) {
				part, _ := tree.Get(id)
				spoil(part)
				look("changes to what Get returned")
			}
		}
	}
}

// TestResultsApart changes one result of Unit and Get, part by part, and looks at another one and at the other parts.
func TestResultsApart(t *testing.T) {
	tree := makeTree(t, sample())
	tree = expect(t, tree, call{name: "Relabel", id: number(5), label: "2"}, api.OK)
	want := tree.Unit()
	one, two := tree.Unit(), tree.Unit()
	part, _ := tree.Get(number(2))
	wantPart := copyOf(part)
	spoil(one)
	if !unit.Equal(two, want) || !unit.Equal(part, wantPart) {
		t.Error("results share memory")
	}
	old := nodes(&want)
	for i, x := range nodes(&two) {
		spoilWords(x.Head)
		spoilWords(x.Words)
		copy(x.Head, old[i].Head)
		copy(x.Words, old[i].Words)
		if !unit.Equal(two, want) {
			t.Fatal(i, "the parts of a result share memory")
		}
	}
}

// P1

// TestHugeArguments gives a tree with 2^16 levels, a wide one, and long lists to every function.
func TestHugeArguments(t *testing.T) {
	deep := unitOf(1, api.Para, "1")
	for n := 2; n <= 1<<16; n++ {
		deep = unitOf(n, api.Para, "1", deep)
	}
	wide := unitOf(1, api.Section, "1", slices.Repeat([]api.Unit{unitOf(2, api.Para, strings.Repeat("1", 1000))}, 1<<16)...)
	tree := makeTree(t, sample())
	for i, u := range []api.Unit{deep, wide} {
		if ptree.New(u) != nil {
			t.Error(i)
		}
		expect(t, tree, call{name: "Insert", parent: number(1), at: math.MaxInt, x: u}, api.ErrArg)
	}
	expect(t, tree, call{name: "Relabel", id: number(1), label: strings.Repeat("1", 1<<16)}, api.ErrArg)
	long := slices.Repeat(words(1, "w"), 1<<16)
	expect(t, tree, call{name: "SetWords", id: number(1), words: long}, api.ErrFull)
	expect(t, tree, call{name: "SetHeading", id: number(1), words: long}, api.ErrFull)
	for _, at := range []int{math.MinInt, -1, 65, math.MaxInt} {
		expect(t, tree, call{name: "Insert", at: at, x: unitOf(500, api.Section, "9")}, api.ErrRange)
		expect(t, tree, call{name: "Move", id: number(7), at: at}, api.ErrRange)
	}
}
