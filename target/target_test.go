package target_test

import (
	"fmt"
	"math"
	"math/rand"
	"regexp"
	"slices"
	"testing"

	"pandect/address"
	"pandect/api"
	"pandect/target"
	"pandect/treeedit"
	"pandect/unit"
)

var (
	somePositions = []int{math.MinInt, -3, -2, -1, api.First, api.Last, api.After, api.Before, 4, 5, 6, 7, math.MaxInt}
	positions     = []int{api.First, api.Last, api.After, api.Before}
	someKinds     = []int{math.MinInt, -2, -1, api.Insert, api.Repeal, api.ReplaceWords, api.InsertWords, api.Heading, api.Relabel, api.Move, api.Commence, api.Expire, api.Revive, api.DeclareEvent, api.Correct, 12, 13, math.MaxInt}
	labelPattern  = regexp.MustCompile(`\A[1-9][0-9]{0,3}[A-Z]{0,3}\z`)
)

// The model: it follows the definitions, with pointers to the units of a tree. An item that moves is found by the place of a marker.

// place is a place in a tree: the unit there, the place of its parent, which is nil for the root, and its index among the kids.
type place struct {
	u     *api.Unit
	above *place
	at    int
}

// places returns the places of all units in document order.
func places(u *api.Unit) []*place {
	var out []*place
	var add func(x *place)
	add = func(x *place) {
		out = append(out, x)
		for i := range x.u.Kids {
			add(&place{&x.u.Kids[i], x, i})
		}
	}
	add(&place{u: u})
	return out
}

// validAddress follows the definition of layer 7.
func validAddress(p []api.Step) bool {
	for i, s := range p {
		book := i == 0 && s == api.Step{}
		if !book && (s.Kind < api.Part || s.Kind > api.Note || !labelPattern.MatchString(s.Label)) {
			return false
		}
	}
	return len(p) <= 9
}

// matched returns the places that the address matches.
func matched(u *api.Unit, p []api.Step) []*place {
	all := places(u)
	if !validAddress(p) {
		return nil
	}
	if len(p) == 0 {
		return all[:1]
	}
	isAt := func(x *place, s api.Step) bool { return x.u.Kind == s.Kind && x.u.Label == s.Label }
	found := all[:1]
	if p[0] != (api.Step{}) {
		found = nil
		for _, x := range all {
			if isAt(x, p[0]) {
				found = append(found, x)
			}
		}
	}
	for _, s := range p[1:] {
		var next []*place
		for _, x := range found {
			for _, y := range all {
				if y.above == x && isAt(y, s) {
					next = append(next, y)
				}
			}
		}
		found = next
	}
	return found
}

// isBelow reports whether x lies below y.
func isBelow(x, y *place) bool {
	for x = x.above; x != nil; x = x.above {
		if x.u == y.u {
			return true
		}
	}
	return false
}

// row is an error of the chapter: whether it applies.
type row struct {
	errno   api.Errno
	applies bool
}

// firstError returns the first error that applies.
func firstError(l []row) api.Errno {
	for _, r := range l {
		if r.applies {
			return r.errno
		}
	}
	return api.OK
}

func isBeside(where int) bool { return where == api.After || where == api.Before }

// findRows are the errors of address.FindOne.
func findRows(l []*place) []row {
	return []row{{api.ErrNoTarget, len(l) == 0}, {api.ErrAmbiguous, len(l) > 1}}
}

// isRoot reports whether the root is the only match.
func isRoot(l []*place) bool { return len(l) == 1 && l[0].above == nil }

func pointRows(u *api.Unit, p []api.Step, where int) []row {
	l := matched(u, p)
	rows := append([]row{{api.ErrArg, where < 0 || where > 3}}, findRows(l)...)
	return append(rows, row{api.ErrKind, isRoot(l) && isBeside(where)})
}

func destinationRows(u *api.Unit, it api.Item) []row {
	rows := []row{{api.ErrArg, it.Kind != 0 && it.Kind != 6}}
	if it.Kind != 6 {
		return append(rows, pointRows(u, it.At, it.Where)...)
	}
	at, to := matched(u, it.At), matched(u, it.To)
	rows = append(rows, row{api.ErrArg, it.Where < 0 || it.Where > 3})
	rows = append(rows, findRows(at)...)
	rows = append(rows, findRows(to)...)
	both := len(at) == 1 && len(to) == 1
	return append(rows,
		row{api.ErrKind, isRoot(at)},
		row{api.ErrKind, isRoot(to) && isBeside(it.Where)},
		row{api.ErrKind, both && isBelow(to[0], at[0])},
		row{api.ErrKind, both && to[0].u == at[0].u && !isBeside(it.Where)})
}

// wantPoint returns the insertion point at a position of the unit.
func wantPoint(x *place, where int) (api.Id, int) {
	switch where {
	case api.First:
		return x.u.Id, 0
	case api.Last:
		return x.u.Id, len(x.u.Kids)
	case api.After:
		return x.above.u.Id, x.at + 1
	}
	return x.above.u.Id, x.at
}

// put returns the tree with x at an index below the unit parent.
func put(u api.Unit, parent api.Id, at int, x api.Unit) api.Unit {
	u.Kids = slices.Clone(u.Kids)
	for i := range u.Kids {
		u.Kids[i] = put(u.Kids[i], parent, at, x)
	}
	if u.Id == parent {
		u.Kids = slices.Insert(u.Kids, at, x)
	}
	return u
}

// take returns the tree without the unit id.
func take(u api.Unit, id api.Id) api.Unit {
	u.Kids = slices.DeleteFunc(slices.Clone(u.Kids), func(kid api.Unit) bool { return kid.Id == id })
	for i := range u.Kids {
		u.Kids[i] = take(u.Kids[i], id)
	}
	return u
}

// wantMoved puts a marker at the insertion point, takes the target away, and returns where the marker is then.
func wantMoved(u api.Unit, x, to *place, where int) (api.Id, int) {
	marker := api.Unit{Id: unknown}
	parent, at := wantPoint(to, where)
	u = take(put(u, parent, at, marker), x.u.Id)
	for _, y := range places(&u) {
		if y.u.Id == marker.Id {
			return y.above.u.Id, y.at
		}
	}
	panic("no marker")
}

// Comparison with the model.

// checkFind compares Find and FindAll with the model. What an instruction has beside At does not matter.
func checkFind(t *testing.T, u api.Unit, it api.Item) {
	t.Helper()
	var want []api.Id
	for _, x := range matched(&u, it.At) {
		want = append(want, x.u.Id)
	}
	if got := target.FindAll(u, it.At...); !slices.Equal(got, want) {
		t.Fatalf("FindAll(%v): %v, want %v", it.At, got, want)
	}
	errno := firstError(findRows(matched(&u, it.At)))
	if errno != api.OK {
		want = []api.Id{{}}
	}
	if got, e := target.Find(u, it); got != want[0] || e != errno {
		t.Fatalf("Find(%v): %v %d, want %v %d", it, got, e, want[0], errno)
	}
}

// checkPoint compares InsertionPoint with the model.
func checkPoint(t *testing.T, u api.Unit, p []api.Step, where int) {
	t.Helper()
	errno := firstError(pointRows(&u, p, where))
	var want api.Id
	at := 0
	if errno == api.OK {
		want, at = wantPoint(matched(&u, p)[0], where)
	}
	if got, i, e := target.InsertionPoint(u, p, where); got != want || i != at || e != errno {
		t.Fatalf("InsertionPoint(%v, %d): %v %d %d, want %v %d %d", p, where, got, i, e, want, at, errno)
	}
}

// checkDestination compares Destination with the model. It returns the errors that apply.
func checkDestination(t *testing.T, u api.Unit, it api.Item) []api.Errno {
	t.Helper()
	rows := destinationRows(&u, it)
	errno := firstError(rows)
	var want api.Id
	at := 0
	switch {
	case errno == api.OK && it.Kind == api.Move:
		all := append(matched(&u, it.At), matched(&u, it.To)...)
		want, at = wantMoved(u, all[0], all[1], it.Where)
	case errno == api.OK:
		want, at = wantPoint(matched(&u, it.At)[0], it.Where)
	}
	if got, i, e := target.Destination(u, it); got != want || i != at || e != errno {
		t.Fatalf("Destination(kind %d, at %v, to %v, where %d): %v %d %d, want %v %d %d", it.Kind, it.At, it.To, it.Where, got, i, e, want, at, errno)
	}
	var out []api.Errno
	for _, r := range rows {
		if r.applies {
			out = append(out, r.errno)
		}
	}
	return out
}

// Samples.

// number returns the ID that ends in n.
func number(n int) api.Id { return api.Id{Act: 3, Item: 1, N: n} }

// unknown is an ID that no tree of these tests has.
var unknown = api.Id{Act: 1, Item: 3, N: 1}

func step(kind int, label string) api.Step { return api.Step{Kind: kind, Label: label} }

// steps returns steps made of kinds and labels in turn.
func steps(l ...any) []api.Step {
	var p []api.Step
	for i := 0; i < len(l); i += 2 {
		p = append(p, step(l[i].(int), l[i+1].(string)))
	}
	return p
}

// book is the address of the root.
var book = []api.Step{{}}

// bare returns a unit without ID, heading and words.
func bare(kind int, label string, kids ...api.Unit) api.Unit {
	return api.Unit{Kind: kind, Label: label, Kids: kids}
}

// many returns n units of the kind with the labels from 1 on.
func many(n, kind int) []api.Unit {
	var l []api.Unit
	for i := range n {
		l = append(l, bare(kind, fmt.Sprint(i+1)))
	}
	return l
}

// chain returns n units of the kind, all with label 1, nested in each other.
func chain(n, kind int) api.Unit {
	u := bare(kind, "1")
	for range n - 1 {
		u = bare(kind, "1", u)
	}
	return u
}

// copyOf returns a copy that shares nothing with u.
func copyOf(u api.Unit) api.Unit {
	u.Head, u.Words, u.Kids = slices.Clone(u.Head), slices.Clone(u.Words), slices.Clone(u.Kids)
	for i := range u.Kids {
		u.Kids[i] = copyOf(u.Kids[i])
	}
	return u
}

// withIDs returns a copy of the tree in which the IDs end in 1, 2, ... in document order; that of a book at the root is zero, and the IDs of the others begin with 1 then too.
func withIDs(u api.Unit) api.Unit {
	u = copyOf(u)
	first := 1
	if u.Kind == api.Book {
		first = 0
	}
	for i, x := range places(&u) {
		x.u.Id = number(first + i)
	}
	if u.Kind == api.Book {
		u.Id = api.Id{}
	}
	return u
}

// sample returns an editable book with all kinds of units.
func sample() api.Unit {
	return withIDs(bare(api.Book, "",
		bare(api.Part, "1",
			bare(api.Section, "1", bare(api.Para, "1", bare(api.Para, "1", bare(api.Note, "1"))), bare(api.Para, "2")),
			bare(api.Section, "2")),
		bare(api.Section, "1", bare(api.Table, "1", bare(api.Row, "1", bare(api.Cell, "1"), bare(api.Cell, "2")), bare(api.Row, "2"))),
		bare(api.Section, "3", bare(api.Para, "3"), bare(api.Note, "1"), bare(api.Para, "4"), bare(api.Para, "5")),
		bare(api.Part, "2")))
}

// books returns editable trees with roots of every kind.
func books() []api.Unit {
	var out []api.Unit
	for _, u := range []api.Unit{
		sample(),
		bare(api.Book, ""),
		bare(api.Book, "", bare(api.Section, "1"), bare(api.Section, "2")),
		bare(api.Part, "1", bare(api.Section, "1"), bare(api.Section, "2", bare(api.Para, "1"))),
		bare(api.Section, "1", bare(api.Para, "1", bare(api.Para, "1")), bare(api.Para, "2"), bare(api.Note, "1")),
		bare(api.Para, "1", bare(api.Para, "2", bare(api.Para, "1")), bare(api.Para, "3")),
		bare(api.Table, "1", bare(api.Row, "1", many(3, api.Cell)...), bare(api.Row, "2")),
		bare(api.Row, "1", many(4, api.Cell)...),
		bare(api.Cell, "1"),
		bare(api.Note, "9999ZZZ"),
		chain(9, api.Para),
	} {
		out = append(out, withIDs(u))
	}
	return out
}

// oddTrees returns trees that are not valid, but in which no ID occurs twice.
func oddTrees() []api.Unit {
	labelled := bare(api.Book, "7", bare(api.Book, "", bare(api.Book, "7")), bare(api.Section, "1"), bare(api.Section, "1", bare(api.Part, "2")))
	unlabelled := bare(api.Section, "", bare(api.Para, ""), bare(api.Para, "x"), bare(api.Para, "1", bare(api.Section, "")))
	var out []api.Unit
	for _, u := range []api.Unit{
		labelled,
		unlabelled,
		bare(-1, "1", bare(8, "1", bare(api.Section, "1")), bare(math.MaxInt, ""), bare(math.MinInt, "2")),
		bare(api.Cell, "1", bare(api.Part, "1", bare(api.Note, "2", bare(api.Note, "2"))), bare(api.Cell, "1")),
		bare(api.Section, "1", bare(api.Note, "1"), bare(api.Note, "1"), bare(api.Note, "2"), bare(api.Note, "1")),
		chain(14, api.Para),
		bare(api.Book, "", many(70, api.Cell)...),
	} {
		out = append(out, withIDs(u))
	}
	root := withIDs(unlabelled)
	root.Id = api.Id{}
	numbered := withIDs(labelled)
	numbered.Id = number(-5)
	return append(out, root, numbered)
}

// badAddresses are addresses that match nothing in the trees of these tests. Most are not valid.
func badAddresses() [][]api.Step {
	return [][]api.Step{
		steps(api.Section, "77"), steps(api.Book, "", api.Note, "77"), steps(api.Cell, "1", api.Row, "5"),
		steps(api.Section, "05"), steps(api.Section, "0"), steps(api.Section, "1", api.Para, "1a"), steps(api.Para, ""),
		steps(api.Book, "1"), steps(api.Book, "", api.Book, ""), steps(api.Section, "1", api.Book, ""), steps(api.Book, "7"),
		steps(-1, "1"), steps(8, "1"), steps(math.MaxInt, ""), steps(math.MinInt, "2"), slices.Repeat(steps(api.Para, "1"), 10),
	}
}

// addresses returns addresses that match the root, one unit, several units and none.
func addresses(u api.Unit) [][]api.Step {
	out := append(badAddresses(), nil, book)
	add := func(p []api.Step) {
		if !slices.ContainsFunc(out, func(q []api.Step) bool { return slices.Equal(p, q) }) {
			out = append(out, p)
		}
	}
	for _, id := range unit.IDs(u) {
		full, _ := address.Full(u, id)
		shortest, _ := address.Shortest(u, id)
		add(full)
		add(shortest)
		add(full[len(full)-1:])
		add(full[max(0, len(full)-2):])
	}
	add(steps(u.Kind, u.Label))
	return out
}

// P21.1: Find and FindAll

func TestFind(t *testing.T) {
	for _, u := range slices.Concat(books(), oddTrees()) {
		l := addresses(u)
		for i, p := range l {
			for _, kind := range someKinds {
				checkFind(t, u, api.Item{Kind: kind, At: p, To: l[(i*7+3)%len(l)], Where: somePositions[i%len(somePositions)], Nth: -1, Label: "05"})
			}
		}
	}
}

func TestFindNamed(t *testing.T) {
	u := sample()
	for i, c := range []struct {
		p     []api.Step
		want  []int // the ends of the IDs
		errno api.Errno
	}{
		{steps(api.Section, "1"), []int{2, 8}, api.ErrAmbiguous},
		{steps(api.Part, "1", api.Section, "1"), []int{2}, api.OK},
		{steps(api.Book, "", api.Section, "1"), []int{8}, api.OK},
		{steps(api.Para, "1"), []int{3, 4}, api.ErrAmbiguous},
		{steps(api.Para, "1", api.Para, "1"), []int{4}, api.OK},
		{steps(api.Note, "1"), []int{5, 16}, api.ErrAmbiguous},
		{steps(api.Section, "1", api.Table, "1", api.Row, "2"), []int{13}, api.OK},
		{steps(api.Part, "2"), []int{19}, api.OK},
		{steps(api.Section, "4"), nil, api.ErrNoTarget},
		{steps(api.Book, "", api.Para, "2"), nil, api.ErrNoTarget},
		{steps(api.Section, "01"), nil, api.ErrNoTarget},
		{steps(api.Section, "1", api.Book, ""), nil, api.ErrNoTarget},
	} {
		var want []api.Id
		for _, n := range c.want {
			want = append(want, number(n))
		}
		got, errno := target.Find(u, api.Item{Kind: api.Repeal, At: c.p})
		if l := target.FindAll(u, c.p...); !slices.Equal(l, want) || errno != c.errno || errno == api.OK && got != want[0] || errno != api.OK && got != (api.Id{}) {
			t.Error(i, l, got, errno)
		}
	}
	for _, p := range [][]api.Step{nil, {}, book} {
		id, errno := target.Find(u, api.Item{At: p, To: steps(api.Section, "3")})
		if id != (api.Id{}) || errno != api.OK || !slices.Equal(target.FindAll(u, p...), []api.Id{{}}) {
			t.Error(p, id, errno)
		}
	}
}

// P21.2: InsertionPoint

func TestExample(t *testing.T) {
	u := withIDs(bare(api.Book, "", bare(api.Section, "1"), bare(api.Section, "2")))
	if parent, at, errno := target.InsertionPoint(u, steps(api.Section, "1"), api.After); parent != u.Id || at != 1 || errno != api.OK {
		t.Error(parent, at, errno)
	}
	if parent, at, errno := target.InsertionPoint(u, nil, api.Last); parent != u.Id || at != 2 || errno != api.OK {
		t.Error(parent, at, errno)
	}
	if parent, at, errno := target.InsertionPoint(u, steps(api.Section, "2"), api.Last); parent != number(2) || at != 0 || errno != api.OK {
		t.Error(parent, at, errno)
	}
}

func TestInsertionPoint(t *testing.T) {
	for _, u := range slices.Concat(books(), oddTrees()) {
		for _, p := range addresses(u) {
			for _, where := range somePositions {
				checkPoint(t, u, p, where)
			}
		}
	}
}

// TestManyKids looks beside every kid of a unit with as many as possible.
func TestManyKids(t *testing.T) {
	u := withIDs(bare(api.Book, "", bare(api.Section, "1"), bare(api.Section, "2", many(64, api.Para)...)))
	section := number(2)
	for i := range 64 {
		p := steps(api.Section, "2", api.Para, fmt.Sprint(i+1))
		for where, want := range map[int]struct {
			parent api.Id
			at     int
		}{api.Before: {section, i}, api.After: {section, i + 1}, api.First: {number(3 + i), 0}, api.Last: {number(3 + i), 0}} {
			if parent, at, errno := target.InsertionPoint(u, p, where); parent != want.parent || at != want.at || errno != api.OK {
				t.Error(i, where, parent, at, errno)
			}
		}
	}
	if parent, at, errno := target.InsertionPoint(u, steps(api.Section, "2"), api.Last); parent != section || at != 64 || errno != api.OK {
		t.Error(parent, at, errno)
	}
	if parent, at, errno := target.InsertionPoint(u, steps(api.Section, "2"), api.First); parent != section || at != 0 || errno != api.OK {
		t.Error(parent, at, errno)
	}
}

func TestInsertionPointErrors(t *testing.T) {
	u := sample()
	for i, c := range []struct {
		p     []api.Step
		where int
		errno api.Errno
	}{
		{steps(api.Section, "3"), -1, api.ErrArg}, {steps(api.Section, "3"), 4, api.ErrArg}, {nil, 4, api.ErrArg}, {book, -1, api.ErrArg},
		{steps(api.Section, "4"), 4, api.ErrArg}, {steps(api.Section, "1"), -1, api.ErrArg}, {steps(api.Section, "01"), math.MaxInt, api.ErrArg},
		{steps(api.Section, "4"), api.First, api.ErrNoTarget}, {steps(api.Section, "4"), api.After, api.ErrNoTarget}, {steps(api.Section, "01"), api.Before, api.ErrNoTarget},
		{steps(api.Section, "1"), api.Last, api.ErrAmbiguous}, {steps(api.Section, "1"), api.Before, api.ErrAmbiguous},
		{nil, api.After, api.ErrKind}, {nil, api.Before, api.ErrKind}, {book, api.After, api.ErrKind}, {book, api.Before, api.ErrKind},
		{nil, api.First, api.OK}, {book, api.Last, api.OK},
	} {
		parent, at, errno := target.InsertionPoint(u, c.p, c.where)
		if errno != c.errno || errno != api.OK && (parent != api.Id{} || at != 0) {
			t.Error(i, parent, at, errno)
		}
	}
}

// TestRoots expects that a root of any kind is treated as the book, by whatever address it is found.
func TestRoots(t *testing.T) {
	for _, u := range books()[3:] {
		for _, p := range [][]api.Step{nil, book, steps(u.Kind, u.Label)} {
			if l := target.FindAll(u, p...); len(l) != 1 {
				continue // a unit below the root has its kind and label
			}
			if id, errno := target.Find(u, api.Item{At: p}); id != u.Id || errno != api.OK {
				t.Error(u.Kind, p, id, errno)
			}
			for where, want := range map[int]int{api.First: 0, api.Last: len(u.Kids)} {
				if parent, at, errno := target.InsertionPoint(u, p, where); parent != u.Id || at != want || errno != api.OK {
					t.Error(u.Kind, p, where, parent, at, errno)
				}
			}
			for _, where := range []int{api.After, api.Before} {
				if parent, at, errno := target.InsertionPoint(u, p, where); parent != (api.Id{}) || at != 0 || errno != api.ErrKind {
					t.Error(u.Kind, p, where, parent, at, errno)
				}
			}
		}
	}
}

// P21.2: Destination

// TestKindsAndPositions gives Destination every kind with every position, and addresses with and without errors.
func TestKindsAndPositions(t *testing.T) {
	u := sample()
	for _, kind := range someKinds {
		for _, where := range somePositions {
			for _, at := range [][]api.Step{nil, steps(api.Section, "3"), steps(api.Para, "3"), steps(api.Section, "1"), steps(api.Section, "4")} {
				for _, to := range [][]api.Step{nil, steps(api.Section, "3"), steps(api.Part, "2"), steps(api.Section, "1"), steps(api.Section, "4")} {
					it := api.Item{Kind: kind, At: at, To: to, Where: where}
					applying := checkDestination(t, u, it)
					bad := kind != api.Insert && kind != api.Move || where < api.First || where > api.Before
					if bad != slices.Contains(applying, api.ErrArg) {
						t.Fatal(kind, where, applying)
					}
					if _, _, errno := target.Destination(u, it); bad != (errno == api.ErrArg) {
						t.Fatal(kind, where, errno)
					}
				}
			}
		}
	}
}

func TestInsertDestination(t *testing.T) {
	for _, u := range slices.Concat(books(), oddTrees()) {
		l := addresses(u)
		for i, p := range l {
			for _, where := range somePositions {
				it := api.Item{Kind: api.Insert, At: p, To: l[(i*5+1)%len(l)], Where: where, Unit: bare(api.Section, "1")}
				checkDestination(t, u, it)
				parent, at, errno := target.Destination(u, it)
				if other, i, e := target.InsertionPoint(u, p, where); parent != other || at != i || errno != e {
					t.Fatal(p, where, parent, at, errno)
				}
			}
		}
	}
}

// TestMoves moves everything everywhere. For any two errors that can apply together there is an instruction to which both do.
func TestMoves(t *testing.T) {
	pairs := map[[2]api.Errno]int{}
	moves := 0
	for _, u := range slices.Concat(books(), oddTrees()) {
		l := addresses(u)
		if len(l) > 100 { // of a unit with many kids
			l = append(l[:40:40], l[len(l)-20:]...)
		}
		for _, at := range l {
			for _, to := range l {
				for _, where := range []int{-1, api.First, api.Last, api.After, api.Before, 4} {
					applying := checkDestination(t, u, api.Item{Kind: api.Move, At: at, To: to, Where: where})
					if len(applying) == 0 {
						moves++
					}
					for i, a := range applying {
						for _, b := range applying[i+1:] {
							pairs[[2]api.Errno{a, b}]++
						}
					}
				}
			}
		}
	}
	for _, a := range []api.Errno{api.ErrArg, api.ErrNoTarget, api.ErrAmbiguous, api.ErrKind} {
		for _, b := range []api.Errno{api.ErrNoTarget, api.ErrAmbiguous, api.ErrKind} {
			if (a != api.ErrKind || b == api.ErrKind) && pairs[[2]api.Errno{a, b}] == 0 {
				t.Error("no instruction with both", a, b)
			}
		}
	}
	if moves < 1000 {
		t.Error(moves)
	}
}

// TestMovesNamed moves paragraph 2, 3 or 4 of a section with 5 of them.
func TestMovesNamed(t *testing.T) {
	u := withIDs(bare(api.Book, "", bare(api.Section, "1", many(5, api.Para)...), bare(api.Section, "2", bare(api.Note, "1"), bare(api.Note, "2"))))
	five, two := number(1), number(7)
	para := func(label string) []api.Step { return steps(api.Section, "1", api.Para, label) }
	for i, c := range []struct {
		at, to []api.Step
		where  int
		parent api.Id
		index  int
	}{
		{para("3"), para("3"), api.After, five, 2}, // its present position
		{para("3"), para("3"), api.Before, five, 2},
		{para("1"), para("1"), api.After, five, 0},
		{para("1"), para("1"), api.Before, five, 0},
		{para("5"), para("5"), api.After, five, 4},
		{para("5"), para("5"), api.Before, five, 4},
		{para("3"), para("2"), api.After, five, 2}, // beside the unit directly ahead of it
		{para("3"), para("2"), api.Before, five, 1},
		{para("3"), para("4"), api.After, five, 3}, // beside the unit directly behind it
		{para("3"), para("4"), api.Before, five, 2},
		{para("2"), para("5"), api.After, five, 4}, // to a later place
		{para("2"), para("5"), api.Before, five, 3},
		{para("4"), para("1"), api.After, five, 1}, // to an earlier place
		{para("4"), para("1"), api.Before, five, 0},
		{para("3"), steps(api.Section, "1"), api.First, five, 0}, // within its parent
		{para("3"), steps(api.Section, "1"), api.Last, five, 4},
		{para("1"), steps(api.Section, "1"), api.First, five, 0},
		{para("5"), steps(api.Section, "1"), api.Last, five, 4},
		{para("3"), steps(api.Section, "2"), api.First, two, 0}, // to another parent
		{para("3"), steps(api.Section, "2"), api.Last, two, 2},
		{para("3"), steps(api.Note, "1"), api.After, two, 1},
		{para("3"), steps(api.Note, "2"), api.Before, two, 1},
		{para("3"), para("4"), api.First, number(5), 0},
		{para("3"), para("4"), api.Last, number(5), 0},
		{para("3"), steps(api.Section, "1"), api.After, api.Id{}, 1}, // to the root
		{para("3"), steps(api.Section, "2"), api.Before, api.Id{}, 1},
		{para("3"), nil, api.First, api.Id{}, 0},
		{para("3"), book, api.Last, api.Id{}, 2},
		{steps(api.Section, "1"), nil, api.Last, api.Id{}, 1},
		{steps(api.Section, "1"), nil, api.First, api.Id{}, 0},
		{steps(api.Section, "2"), steps(api.Section, "1"), api.Last, five, 5},
	} {
		if parent, at, errno := target.Destination(u, api.Item{Kind: api.Move, At: c.at, To: c.to, Where: c.where}); parent != c.parent || at != c.index || errno != api.OK {
			t.Error(i, parent, at, errno)
		}
	}
}

// TestMovesThatFail names what ErrKind forbids: to move the root, beside the root, below the target at every depth, and into the target.
func TestMovesThatFail(t *testing.T) {
	u := withIDs(bare(api.Book, "", bare(api.Section, "1", chain(6, api.Para)), bare(api.Section, "2")))
	refused := func(at, to []api.Step, where int) {
		t.Helper()
		if parent, i, errno := target.Destination(u, api.Item{Kind: api.Move, At: at, To: to, Where: where}); parent != (api.Id{}) || i != 0 || errno != api.ErrKind {
			t.Error(at, to, where, parent, i, errno)
		}
	}
	for _, where := range positions {
		for _, root := range [][]api.Step{nil, book} {
			refused(root, steps(api.Section, "2"), where)
			refused(root, steps(api.Book, "", api.Section, "1", api.Para, "1"), where)
			refused(root, nil, where)
			refused(root, book, where)
			if isBeside(where) {
				refused(steps(api.Section, "2"), root, where)
			}
		}
		for n := range 6 {
			below := append(steps(api.Section, "1"), slices.Repeat(steps(api.Para, "1"), n+1)...)
			refused(steps(api.Section, "1"), below, where)
			for k := range n {
				refused(below[:k+2], below, where) // from a paragraph above
			}
			if !isBeside(where) {
				refused(below, below, where)
			}
		}
	}
}

// P21.3: the consequences

// TestEffects does what the instruction says at its destination, and looks where the unit is.
func TestEffects(t *testing.T) {
	x := bare(api.Para, "77", bare(api.Note, "1"))
	x.Id, x.Kids[0].Id = number(1000), number(1001)
	inserted, moved := 0, 0
	for _, u := range books() {
		for _, at := range addresses(u) {
			for _, where := range positions {
				parent, i, errno := target.Destination(u, api.Item{Kind: api.Insert, At: at, Where: where})
				after, e := treeedit.Insert(u, parent, i, x)
				if errno == api.OK && e == api.OK {
					inserted++
					checkEffect(t, u, after, x.Id, at, where, parent, i)
				}
				for _, to := range addresses(u) {
					id, _ := target.Find(u, api.Item{At: at})
					parent, i, errno := target.Destination(u, api.Item{Kind: api.Move, At: at, To: to, Where: where})
					after, e := treeedit.Move(u, id, parent, i)
					if errno == api.OK && e == api.ErrRange {
						t.Fatal(at, to, where, parent, i)
					}
					if errno == api.OK && e == api.OK {
						moved++
						checkEffect(t, u, after, id, to, where, parent, i)
					}
				}
			}
		}
	}
	if inserted < 50 || moved < 200 {
		t.Error(inserted, moved)
	}
}

// checkEffect expects the unit id at an index below parent, and at the position of the unit that the address matched before.
func checkEffect(t *testing.T, before, after api.Unit, id api.Id, p []api.Step, where int, parent api.Id, at int) {
	t.Helper()
	if got, i, ok := unit.Parent(after, id); got != parent || i != at || !ok {
		t.Fatal(id, p, where, parent, at, got, i, ok)
	}
	beside := matched(&before, p)[0].u.Id
	if beside == id && isBeside(where) {
		if !unit.Equal(before, after) {
			t.Fatal(id, p, where)
		}
		return
	}
	x, _ := unit.Find(after, parent)
	i := slices.IndexFunc(x.Kids, func(kid api.Unit) bool { return kid.Id == beside })
	switch where {
	case api.First:
		if parent != beside || at != 0 {
			t.Fatal(id, p, parent, at)
		}
	case api.Last:
		if parent != beside || at != len(x.Kids)-1 {
			t.Fatal(id, p, parent, at)
		}
	case api.After:
		if i < 0 || at != i+1 {
			t.Fatal(id, p, i, at)
		}
	case api.Before:
		if i < 0 || at != i-1 {
			t.Fatal(id, p, i, at)
		}
	}
}

func TestFullAddresses(t *testing.T) {
	for _, u := range books() {
		for _, id := range unit.IDs(u) {
			full, _ := address.Full(u, id)
			first, a, e := target.InsertionPoint(u, full, api.First)
			last, b, f := target.InsertionPoint(u, full, api.Last)
			if first != id || last != id || a != 0 || a > b || e != api.OK || f != api.OK {
				t.Error(id, first, a, e, last, b, f)
			}
			before, a, e := target.InsertionPoint(u, full, api.Before)
			after, b, f := target.InsertionPoint(u, full, api.After)
			if id == u.Id {
				if e != api.ErrKind || f != api.ErrKind {
					t.Error(e, f)
				}
				continue
			}
			parent, at, _ := unit.Parent(u, id)
			if before != parent || after != parent || a != at || b != a+1 || e != api.OK || f != api.OK {
				t.Error(id, before, a, e, after, b, f)
			}
		}
	}
}

// Random trees and addresses.

// randomTree returns a tree of few kinds and labels, in which no ID occurs twice. It is seldom valid.
func randomTree(r *rand.Rand) api.Unit {
	left := r.Intn(25)
	var grow func(depth int) api.Unit
	grow = func(depth int) api.Unit {
		u := bare(r.Intn(9), fmt.Sprint(1+r.Intn(3)))
		if u.Kind == api.Book && r.Intn(2) == 0 {
			u.Label = ""
		}
		for left > 0 && r.Intn(depth+2) < 2 {
			left--
			u.Kids = append(u.Kids, grow(depth+1))
		}
		return u
	}
	u := grow(0)
	ids := r.Perm(100)
	for i, x := range places(&u) {
		x.u.Id = api.Id{Act: ids[i] % 3, Item: ids[i] % 5, N: ids[i]}
	}
	return u
}

// randomAddress returns the end of the way to a unit, or any steps.
func randomAddress(r *rand.Rand, u api.Unit) []api.Step {
	ids := unit.IDs(u)
	p, _ := address.Full(u, ids[r.Intn(len(ids))])
	switch r.Intn(6) {
	case 0:
		p[r.Intn(len(p))] = step(r.Intn(10)-1, fmt.Sprint(r.Intn(4)))
	case 1, 2:
		p = p[r.Intn(len(p)):]
	case 3:
		p = p[len(p)-1:]
	}
	return p
}

func TestRandom(t *testing.T) {
	r := rand.New(rand.NewSource(21))
	found := 0
	for range 20000 {
		u := randomTree(r)
		it := api.Item{Kind: api.Move, At: randomAddress(r, u), To: randomAddress(r, u), Where: r.Intn(4)}
		if r.Intn(10) == 0 {
			it.Kind, it.Where = r.Intn(13), r.Intn(6)-1
		}
		checkFind(t, u, it)
		checkPoint(t, u, it.At, it.Where)
		if len(checkDestination(t, u, it)) == 0 {
			found++
		}
	}
	if found < 2000 {
		t.Error(found)
	}
}

// P1: all arguments

// TestRepeatedIDs gives the functions trees in which IDs occur more than once. These are no books; what remains is that errors are those of the addresses, and that results are zero beside them.
func TestRepeatedIDs(t *testing.T) {
	r := rand.New(rand.NewSource(22))
	for n := range 5000 {
		u := randomTree(r)
		for _, x := range places(&u) {
			x.u.Id = api.Id{N: r.Intn(4)}
			if n%4 == 0 {
				x.u.Id = api.Id{}
			}
		}
		it := api.Item{Kind: []int{api.Insert, api.Move}[r.Intn(2)], At: randomAddress(r, u), To: randomAddress(r, u), Where: r.Intn(4)}
		checkFind(t, u, it)
		_, want := target.Find(u, it)
		for _, f := range []func() (api.Id, int, api.Errno){
			func() (api.Id, int, api.Errno) { return target.Destination(u, it) },
			func() (api.Id, int, api.Errno) { return target.InsertionPoint(u, it.At, it.Where) },
		} {
			parent, at, errno := f()
			if errno != api.OK && (parent != api.Id{} || at != 0) || want != api.OK && errno != want || at < 0 {
				t.Fatal(it.Kind, it.At, it.To, it.Where, parent, at, errno, want)
			}
		}
	}
}

// TestDeepTree goes down far more levels than a valid tree has.
func TestDeepTree(t *testing.T) {
	const depth = 1 << 16
	u := chain(depth, api.Para)
	n := 0
	for x := &u; ; x = &x.Kids[0] {
		n++
		x.Id = number(n)
		if len(x.Kids) == 0 {
			x.Label = "2"
			break
		}
	}
	deepest := steps(api.Para, "2")
	if id, errno := target.Find(u, api.Item{At: deepest}); id != number(depth) || errno != api.OK {
		t.Error(id, errno)
	}
	if parent, at, errno := target.InsertionPoint(u, deepest, api.After); parent != number(depth-1) || at != 1 || errno != api.OK {
		t.Error(parent, at, errno)
	}
	if parent, at, errno := target.Destination(u, api.Item{Kind: api.Move, At: deepest, Where: api.Last}); parent != number(1) || at != 1 || errno != api.OK {
		t.Error(parent, at, errno)
	}
	if _, _, errno := target.Destination(u, api.Item{Kind: api.Move, At: book, To: deepest}); errno != api.ErrKind {
		t.Error(errno)
	}
	if l := target.FindAll(u, steps(api.Para, "1")...); len(l) != depth-1 {
		t.Error(len(l))
	}
}

// Arguments and results.

func TestArgumentsAreNotModified(t *testing.T) {
	for _, u := range slices.Concat(books(), oddTrees()) {
		l := addresses(u)
		for i, at := range l {
			to := l[(i*3+1)%len(l)]
			kept, keptAt, keptTo := copyOf(u), slices.Clone(at), slices.Clone(to)
			for _, where := range positions {
				for _, kind := range []int{api.Insert, api.Move} {
					it := api.Item{Kind: kind, At: at, To: to, Where: where}
					target.Find(u, it)
					target.FindAll(u, at...)
					target.InsertionPoint(u, at, where)
					target.Destination(u, it)
				}
			}
			if !unit.Equal(u, kept) || !slices.Equal(at, keptAt) || !slices.Equal(to, keptTo) {
				t.Fatal(at, to)
			}
		}
	}
}

// TestNothingIsKept changes arguments and results, and asks again.
func TestNothingIsKept(t *testing.T) {
	u := sample()
	p := steps(api.Section, "1")
	got, other := target.FindAll(u, p...), target.FindAll(u, p...)
	got[0] = unknown
	got = append(got[:1], unknown, unknown)
	if want := []api.Id{number(2), number(8)}; !slices.Equal(other, want) || !slices.Equal(target.FindAll(u, p...), want) {
		t.Error(got, other)
	}
	p[0].Label = "3"
	if parent, at, errno := target.InsertionPoint(u, p, api.Last); parent != number(14) || at != 4 || errno != api.OK {
		t.Error(parent, at, errno)
	}
	u.Kids[2].Kids = u.Kids[2].Kids[:2]
	if parent, at, errno := target.InsertionPoint(u, p, api.Last); parent != number(14) || at != 2 || errno != api.OK {
		t.Error(parent, at, errno)
	}
	all := target.FindAll(u, steps(api.Para, "1")...)
	for i := range u.Kids {
		for _, x := range places(&u.Kids[i]) {
			x.u.Id = unknown
		}
	}
	if !slices.Equal(all, []api.Id{number(3), number(4)}) {
		t.Error(all)
	}
}
