package enact_test

import (
	"fmt"
	"slices"
	"testing"

	"pandect/api"
	"pandect/enact"
	"pandect/syntax"
	"pandect/unit"
)

// The model: it follows the table of the chapter, with pointers to the units of a tree. It asks lower layers only which instructions are valid, which kinds a unit can contain, and which trees are.

// place is a place in a tree: the unit there, the place of its parent, which is nil for the root, and its index among the kids.
type place struct {
	u     *api.Unit
	above *place
	at    int
}

// places returns the places of all units in document order.
func places(u *api.Unit) []*place {
	var out []*place
	var add func(x *place)
	add = func(x *place) {
		out = append(out, x)
		for i := range x.u.Kids {
			add(&place{&x.u.Kids[i], x, i})
		}
	}
	add(&place{u: u})
	return out
}

// depth returns the depth at which the unit stands.
func (x *place) depth() int {
	if x.above == nil {
		return 0
	}
	return x.above.depth() + 1
}

// isBelow reports whether the unit lies below y.
func (x *place) isBelow(y *place) bool {
	return x.above != nil && (x.above.u == y.u || x.above.isBelow(y))
}

// hasKid reports whether the unit has a kid of that kind and label, other than the unit but.
func (x *place) hasKid(kind int, label string, but *api.Unit) bool {
	for i := range x.u.Kids {
		if kid := &x.u.Kids[i]; kid != but && kid.Kind == kind && kid.Label == label {
			return true
		}
	}
	return false
}

// matched returns the places that a valid address matches.
func matched(u *api.Unit, p []api.Step) []*place {
	all := places(u)
	found := all[:1] // the root
	for i, s := range p {
		if i == 0 && s == (api.Step{}) {
			continue
		}
		var next []*place
		for _, x := range all {
			if x.u.Kind == s.Kind && x.u.Label == s.Label && (i == 0 || slices.ContainsFunc(found, func(y *place) bool { return x.above != nil && x.above.u == y.u })) {
				next = append(next, x)
			}
		}
		found = next
	}
	return found
}

// only returns the only place of the list, or nil.
func only(l []*place) *place {
	if len(l) != 1 {
		return nil
	}
	return l[0]
}

func isBeside(where int) bool { return where == api.After || where == api.Before }

// point returns the new parent for a position of the unit x, and the index there, or nil if there is none.
func point(x *place, where int) (*place, int) {
	switch {
	case x == nil:
		return nil, 0
	case where == api.First:
		return x, 0
	case where == api.Last:
		return x, len(x.u.Kids)
	case where == api.Before:
		return x.above, x.at
	case where == api.After:
		return x.above, x.at + 1
	}
	return nil, 0
}

// row is a failure of the table: whether it applies.
type row struct {
	errno   api.Errno
	applies bool
}

// rowsOf returns the failures of an amendment, each regardless of the others.
func rowsOf(u *api.Unit, d api.EnactedItem) []row {
	it := d.It
	at := matched(u, it.At)
	rows := []row{
		{api.ErrArg, it.Kind < api.Insert || it.Kind > api.Move || !syntax.Valid(it)},
		{api.ErrNoTarget, len(at) == 0},
		{api.ErrAmbiguous, len(at) > 1},
	}
	x := only(at)
	isBook := x != nil && x.above == nil
	switch it.Kind {
	case api.Insert:
		return append(rows, insertRows(u, x, d)...)
	case api.ReplaceWords, api.InsertWords:
		empty := it.Kind == api.InsertWords && len(it.Old) == 0
		return append(rows, row{api.ErrKind, isBook},
			row{api.ErrMissing, x != nil && !empty && len(asked(x.u.Words, it)) == 0},
			row{api.ErrFull, x != nil && len(reworded(x.u.Words, d)) > 256})
	case api.Relabel:
		return append(rows, row{api.ErrKind, isBook}, row{api.ErrDuplicateLabel, x != nil && x.above != nil && x.above.hasKid(x.u.Kind, it.Label, nil)})
	case api.Move:
		return append(rows, moveRows(u, x, it)...)
	}
	return append(rows, row{api.ErrKind, isBook}) // Repeal, Heading
}

func insertRows(u *api.Unit, x *place, d api.EnactedItem) []row {
	it := d.It
	p, _ := point(x, it.Where)
	isBook := x != nil && x.above == nil
	exists := false
	for n := range unit.Count(it.Unit) {
		for _, y := range places(u) {
			exists = exists || y.u.Id == api.Id{Act: d.Act, Item: d.Item, N: n + 1}
		}
	}
	return []row{
		{api.ErrKind, isBook && isBeside(it.Where) || p != nil && !unit.CanContain(p.u.Kind, it.Unit.Kind)},
		{api.ErrDuplicateLabel, p != nil && p.hasKid(it.Unit.Kind, it.Unit.Label, nil)},
		{api.ErrFull, p != nil && (len(p.u.Kids) >= 64 || p.depth()+1+unit.Depth(it.Unit) > 8) || len(places(u))+unit.Count(it.Unit) > 1024},
		{api.ErrExists, exists},
	}
}

func moveRows(u *api.Unit, x *place, it api.Item) []row {
	to := matched(u, it.To)
	y := only(to)
	p, _ := point(y, it.Where)
	both := x != nil && y != nil
	refused := x != nil && x.above == nil ||
		y != nil && y.above == nil && isBeside(it.Where) ||
		both && x.u == y.u && !isBeside(it.Where) ||
		both && y.isBelow(x) ||
		x != nil && p != nil && !unit.CanContain(p.u.Kind, x.u.Kind)
	return []row{
		{api.ErrNoTarget, len(to) == 0},
		{api.ErrAmbiguous, len(to) > 1},
		{api.ErrKind, refused},
		{api.ErrDuplicateLabel, x != nil && p != nil && p.hasKid(x.u.Kind, x.u.Label, x.u)},
		{api.ErrFull, x != nil && p != nil && ((x.above == nil || p.u != x.above.u) && len(p.u.Kids) >= 64 || p.depth()+1+unit.Depth(*x.u) > 8)},
	}
}

// applying returns the failures that apply.
func applying(u api.Unit, d api.EnactedItem) []api.Errno {
	var out []api.Errno
	for _, r := range rowsOf(&u, d) {
		if r.applies {
			out = append(out, r.errno)
		}
	}
	return out
}

// asked returns the indices of the occurrences of Old that the instruction is about.
func asked(w []api.Word, it api.Item) []int {
	var all []int
	end := 0
	for i := range w {
		fits := i >= end && len(it.Old) > 0 && i+len(it.Old) <= len(w)
		for k := 0; fits && k < len(it.Old); k++ {
			fits = w[i+k].Text == it.Old[k]
		}
		if fits {
			all = append(all, i)
			end = i + len(it.Old)
		}
	}
	if it.Nth == 0 {
		return all
	}
	if it.Nth < 0 || it.Nth > len(all) {
		return nil
	}
	return []int{all[it.Nth-1]}
}

// reworded returns the words after a ReplaceWords or an InsertWords. It goes from word to word, and marks the new ones with a counter.
func reworded(w []api.Word, d api.EnactedItem) []api.Word {
	var out []api.Word
	next := 0
	write := func() {
		for _, s := range d.It.New {
			out = append(out, api.Word{Text: s, By: api.Mark{Act: d.Act, Item: d.Item, At: next}})
			next++
		}
	}
	inserts := d.It.Kind == api.InsertWords
	if inserts && len(d.It.Old) == 0 {
		write()
	}
	at := asked(w, d.It)
	for i := 0; i < len(w); {
		if !slices.Contains(at, i) {
			out = append(out, w[i])
			i++
			continue
		}
		if inserts {
			out = append(out, w[i:i+len(d.It.Old)]...)
		}
		write()
		i += len(d.It.Old)
	}
	return out
}

// stamped returns the units of an Insert with their IDs and marks.
func stamped(d api.EnactedItem) api.Unit {
	u := copyOf(d.It.Unit)
	next := 0
	for i, x := range places(&u) {
		x.u.Id = api.Id{Act: d.Act, Item: d.Item, N: i + 1}
		for _, l := range [][]api.Word{x.u.Head, x.u.Words} {
			for k := range l {
				l[k].By = api.Mark{Act: d.Act, Item: d.Item, At: next}
				next++
			}
		}
	}
	return u
}

// amended returns the book after an amendment that takes effect, and the IDs of the units that it affects.
func amended(u api.Unit, d api.EnactedItem) (api.Unit, []api.Id) {
	u = copyOf(u)
	x := matched(&u, d.It.At)[0]
	ids := []api.Id{x.u.Id}
	switch d.It.Kind {
	case api.Insert:
		fresh := stamped(d)
		p, at := point(x, d.It.Where)
		p.u.Kids = slices.Insert(p.u.Kids, at, fresh)
		ids = idsOf(fresh)
	case api.Repeal:
		ids = idsOf(*x.u)
		x.above.u.Kids = slices.Delete(x.above.u.Kids, x.at, x.at+1)
	case api.ReplaceWords, api.InsertWords:
		x.u.Words = reworded(x.u.Words, d)
	case api.Heading:
		x.u.Head = reworded(nil, api.EnactedItem{Act: d.Act, Item: d.Item, It: api.Item{Kind: api.InsertWords, New: d.It.New}})
	case api.Relabel:
		x.u.Label = d.It.Label
	case api.Move:
		moveWithMarker(&u, x, only(matched(&u, d.It.To)), d.It.Where)
	}
	return u, ids
}

// moveWithMarker puts a marker at the insertion point, takes the unit out of the tree, and puts it in the marker's place.
func moveWithMarker(u *api.Unit, x, to *place, where int) {
	if x.u == to.u {
		return
	}
	moved := copyOf(*x.u)
	p, at := point(to, where)
	p.u.Kids = slices.Insert(p.u.Kids, at, api.Unit{Id: unknown})
	for _, y := range places(u) {
		if y.u.Id == moved.Id {
			y.above.u.Kids = slices.Delete(y.above.u.Kids, y.at, y.at+1)
			break
		}
	}
	for _, y := range places(u) {
		if y.u.Id == unknown {
			*y.u = moved
		}
	}
}

// idsOf returns the IDs of a tree in document order.
func idsOf(u api.Unit) []api.Id {
	var l []api.Id
	for _, x := range places(&u) {
		l = append(l, x.u.Id)
	}
	return l
}

// isBookOfLayer8 follows the definition of editable trees.
func isBookOfLayer8(u api.Unit) bool {
	for _, x := range places(&u) {
		if x.u.Kind != api.Book && x.u.Id == (api.Id{}) {
			return false
		}
	}
	return unit.Valid(u)
}

// Comparison with the model.

// check compares Apply, ApplyAll and Affected with the model, for one item. It returns the failures that apply.
func check(t *testing.T, u api.Unit, d api.EnactedItem) []api.Errno {
	t.Helper()
	l := applying(u, d)
	want, errno := u, api.OK
	var affected []api.Id
	var failures []api.Failure
	if len(l) == 0 {
		want, affected = amended(u, d)
	} else {
		errno = l[0]
		if syntax.IsAmendment(d.It.Kind) {
			failures = append(failures, api.Failure{Act: d.Act, Item: d.Item, Why: errno})
		}
	}
	kept, keptItem := copyOf(u), copyOfItem(d.It)
	if got, e := enact.Apply(u, d); e != errno || !unit.Equal(got, want) {
		t.Fatalf("Apply(%s): %d, want %d\n%v\nwant\n%v", about(d), e, errno, got, want)
	}
	if got, f := enact.ApplyAll(u, d); !slices.Equal(f, failures) || !unit.Equal(got, want) {
		t.Fatalf("ApplyAll(%s): %v, want %v\n%v\nwant\n%v", about(d), f, failures, got, want)
	}
	if got := enact.Affected(u, d); !slices.Equal(got, affected) {
		t.Fatalf("Affected(%s): %v, want %v", about(d), got, affected)
	}
	if !unit.Equal(u, kept) || !syntax.Equal(d.It, keptItem) {
		t.Fatalf("%s: arguments are modified", about(d))
	}
	if !isBookOfLayer8(want) {
		t.Fatalf("%s: the result is no book: %v", about(d), want)
	}
	checkOthers(t, u, want, affected)
	return l
}

// checkOthers expects that units that are not affected keep their kind, label, heading and words.
func checkOthers(t *testing.T, before, after api.Unit, affected []api.Id) {
	t.Helper()
	left := map[api.Id]*api.Unit{}
	for _, x := range places(&after) {
		left[x.u.Id] = x.u
	}
	for _, x := range places(&before) {
		y := left[x.u.Id]
		if slices.Contains(affected, x.u.Id) {
			continue
		}
		if y == nil || y.Kind != x.u.Kind || y.Label != x.u.Label || !slices.Equal(y.Head, x.u.Head) || !slices.Equal(y.Words, x.u.Words) {
			t.Fatal(x.u.Id, "has changed, but is not affected")
		}
	}
}

// expect compares an item with the model, and its error with the given one.
func expect(t *testing.T, u api.Unit, d api.EnactedItem, want api.Errno) {
	t.Helper()
	check(t, u, d)
	if _, errno := enact.Apply(u, d); errno != want {
		t.Errorf("%s: %d, want %d", about(d), errno, want)
	}
}

// after returns the book after an item, which must take effect.
func after(t *testing.T, u api.Unit, d api.EnactedItem) api.Unit {
	t.Helper()
	expect(t, u, d, api.OK)
	u, _ = enact.Apply(u, d)
	return u
}

// about returns the text of an item, which need not be valid.
func about(d api.EnactedItem) string {
	text, errno := syntax.Format(d.It)
	if errno != api.OK {
		text = fmt.Sprintf("%.500s", fmt.Sprintf("%+v", d.It))
	}
	return fmt.Sprintf("%d %d: %s", d.Act, d.Item, text)
}

// copyOf returns a copy that shares nothing with u.
func copyOf(u api.Unit) api.Unit {
	u.Head, u.Words, u.Kids = slices.Clone(u.Head), slices.Clone(u.Words), slices.Clone(u.Kids)
	for i := range u.Kids {
		u.Kids[i] = copyOf(u.Kids[i])
	}
	return u
}

// copyOfItem returns a copy that shares nothing with the instruction.
func copyOfItem(it api.Item) api.Item {
	it.At, it.To, it.Unit, it.Old, it.New, it.By = slices.Clone(it.At), slices.Clone(it.To), copyOf(it.Unit), slices.Clone(it.Old), slices.Clone(it.New), slices.Clone(it.By)
	for i := range it.By {
		it.By[i] = copyOfItem(it.By[i])
	}
	return it
}
