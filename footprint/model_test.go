package footprint_test

import (
	"slices"
	"strings"
	"testing"

	"pandect/api"
	"pandect/enact"
	"pandect/footprint"
	"pandect/syntax"
	"pandect/unit"
)

// The model: it follows the definitions of the chapter, with pointers to the units of a tree, and lists of keys that it puts in order one by one. It asks lower layers only which instructions are valid, and which have an effect.

// place is a place in a tree: the unit there, the place of its parent, which is nil for the root, and its index among the kids.
type place struct {
	u     *api.Unit
	above *place
	at    int
}

// places returns the places of all units in document order.
func places(u *api.Unit) []*place {
	var out []*place
	var add func(x *place)
	add = func(x *place) {
		out = append(out, x)
		for i := range x.u.Kids {
			add(&place{&x.u.Kids[i], x, i})
		}
	}
	add(&place{u: u})
	return out
}

// isBelow reports whether the unit lies below y.
func (x *place) isBelow(y *place) bool {
	return x.above != nil && (x.above.u == y.u || x.above.isBelow(y))
}

// matched returns the places that a valid address matches.
func matched(u *api.Unit, p []api.Step) []*place {
	all := places(u)
	found := all[:1] // the root
	for i, s := range p {
		if i == 0 && s == (api.Step{}) {
			continue
		}
		var next []*place
		for _, x := range all {
			if x.u.Kind == s.Kind && x.u.Label == s.Label && (i == 0 || slices.ContainsFunc(found, func(y *place) bool { return x.above != nil && x.above.u == y.u })) {
				next = append(next, x)
			}
		}
		found = next
	}
	return found
}

// only returns the only place of the list, or nil.
func only(l []*place) *place {
	if len(l) != 1 {
		return nil
	}
	return l[0]
}

// newParent returns the parent of the destination of an Insert or a Move whose target is x, or nil if there is none.
func newParent(u *api.Unit, x *place, it api.Item) *place {
	y := x
	if it.Kind == api.Move {
		y = only(matched(u, it.To))
	}
	if y == nil {
		return nil
	}
	p := y
	if it.Where == api.After || it.Where == api.Before {
		p = y.above
	}
	if it.Kind == api.Move && (x.above == nil || y.isBelow(x) || p != nil && p.u == x.u) {
		return nil
	}
	return p
}

// isAmendment reports whether an instruction has keys at all.
func isAmendment(it api.Item) bool {
	return slices.Contains([]int{api.Insert, api.Repeal, api.ReplaceWords, api.InsertWords, api.Heading, api.Relabel, api.Move}, it.Kind) && syntax.Valid(it)
}

// Keys of a unit.

func wordsKey(x *place) api.Key { return api.Key{Kind: 0, Id: x.u.Id} }
func headKey(x *place) api.Key  { return api.Key{Kind: 1, Id: x.u.Id} }
func kidsKey(x *place) api.Key  { return api.Key{Kind: 2, Id: x.u.Id} }
func nameKey(kind int, label string) api.Key {
	return api.Key{Kind: 3, Name: api.Step{Kind: kind, Label: label}}
}

// readKeys returns the keys of the read set, in any order, with those that are found twice.
func readKeys(u *api.Unit, d api.EnactedItem) []api.Key {
	if !isAmendment(d.It) {
		return nil
	}
	var out []api.Key
	steps := d.It.At
	if d.It.Kind == api.Move {
		steps = slices.Concat(steps, d.It.To)
	}
	for _, s := range steps {
		if s != (api.Step{}) {
			out = append(out, nameKey(s.Kind, s.Label))
		}
	}
	x := only(matched(u, d.It.At))
	if x == nil {
		return out
	}
	p := newParent(u, x, d.It)
	if p != nil && (d.It.Kind == api.Insert || d.It.Kind == api.Move) {
		out = append(out, kidsKey(p))
	}
	switch d.It.Kind {
	case api.Insert:
		for n := range places(&d.It.Unit) {
			for _, y := range places(u) {
				if y.u.Id == (api.Id{Act: d.Act, Item: d.Item, N: n + 1}) {
					out = append(out, kidsKey(y))
				}
			}
		}
	case api.ReplaceWords, api.InsertWords:
		out = append(out, wordsKey(x))
	case api.Relabel:
		if x.above != nil {
			out = append(out, kidsKey(x.above))
		}
	case api.Move:
		for _, y := range places(u) {
			if y.u == x.u || y.isBelow(x) {
				out = append(out, kidsKey(y))
			}
		}
	}
	return out
}

// writeKeys returns the keys of the write set, in any order, with those that are found twice.
func writeKeys(u *api.Unit, d api.EnactedItem) []api.Key {
	if _, errno := enact.Apply(*u, d); !isAmendment(d.It) || errno != api.OK {
		return nil
	}
	x := only(matched(u, d.It.At))
	within := places(x.u) // the target and all units below it
	var out []api.Key
	switch d.It.Kind {
	case api.Insert:
		out = append(out, kidsKey(newParent(u, x, d.It)))
		for _, y := range places(&d.It.Unit) {
			out = append(out, nameKey(y.u.Kind, y.u.Label))
		}
	case api.Repeal:
		out = append(out, kidsKey(x.above))
		for _, y := range within {
			out = append(out, nameKey(y.u.Kind, y.u.Label), wordsKey(y), headKey(y), kidsKey(y))
		}
	case api.ReplaceWords, api.InsertWords:
		out = append(out, wordsKey(x))
	case api.Heading:
		out = append(out, headKey(x))
	case api.Relabel:
		out = append(out, kidsKey(x.above), nameKey(x.u.Kind, x.u.Label), nameKey(x.u.Kind, d.It.Label))
	case api.Move:
		out = append(out, kidsKey(x.above), kidsKey(newParent(u, x, d.It)))
		for _, y := range within {
			out = append(out, nameKey(y.u.Kind, y.u.Label))
		}
	}
	return out
}

// isLess reports whether a comes before b.
func isLess(a, b api.Key) bool {
	numbersA := []int{a.Kind, a.Id.Act, a.Id.Item, a.Id.N, a.Name.Kind}
	numbersB := []int{b.Kind, b.Id.Act, b.Id.Item, b.Id.N, b.Name.Kind}
	for i := range numbersA {
		if numbersA[i] != numbersB[i] {
			return numbersA[i] < numbersB[i]
		}
	}
	return strings.Compare(a.Name.Label, b.Name.Label) < 0
}

// inOrder returns the keys in ascending order, each of them once.
func inOrder(l []api.Key) []api.Key {
	var out []api.Key
	for _, k := range l {
		at := 0
		for at < len(out) && isLess(out[at], k) {
			at++
		}
		if at == len(out) || out[at] != k {
			out = slices.Insert(out, at, k)
		}
	}
	return out
}

func wantReads(u api.Unit, d api.EnactedItem) []api.Key {
	u = copyOf(u)
	return inOrder(readKeys(&u, d))
}

func wantWrites(u api.Unit, d api.EnactedItem) []api.Key {
	u = copyOf(u)
	return inOrder(writeKeys(&u, d))
}

// overlap reports whether a key is in both lists.
func overlap(a, b []api.Key) bool {
	for _, k := range a {
		if slices.Contains(b, k) {
			return true
		}
	}
	return false
}

// areIndependent follows the definition of independent items.
func areIndependent(u api.Unit, a, b api.EnactedItem) bool {
	writesA, writesB := wantWrites(u, a), wantWrites(u, b)
	touchesA, touchesB := slices.Concat(wantReads(u, a), writesA), slices.Concat(wantReads(u, b), writesB)
	return (a.Act != b.Act || a.Item != b.Item) && !overlap(writesA, touchesB) && !overlap(writesB, touchesA)
}

// Comparison with the model.

// check compares Reads and Writes with the model, and what the item changes with its write set. It reports whether the item has an effect.
func check(t *testing.T, u api.Unit, d api.EnactedItem) bool {
	t.Helper()
	kept, keptItem := copyOf(u), copyOfItem(d.It)
	if got, want := footprint.Reads(u, d), wantReads(u, d); !slices.Equal(got, want) {
		t.Fatalf("Reads(%s): %v, want %v", about(d), texts(got), texts(want))
	}
	writes := footprint.Writes(u, d)
	if want := wantWrites(u, d); !slices.Equal(writes, want) {
		t.Fatalf("Writes(%s): %v, want %v", about(d), texts(writes), texts(want))
	}
	if !unit.Equal(u, kept) || !syntax.Equal(d.It, keptItem) {
		t.Fatal(about(d), "arguments are modified")
	}
	after, errno := enact.Apply(u, d)
	if (errno == api.OK) != (len(writes) > 0) {
		t.Fatal(about(d), errno, texts(writes))
	}
	if errno == api.OK {
		checkUnchanged(t, u, after, writes)
	}
	return errno == api.OK
}

// checkUnchanged expects that what is not in the write set is the same in both books.
func checkUnchanged(t *testing.T, before, after api.Unit, writes []api.Key) {
	t.Helper()
	left := map[api.Id]*api.Unit{}
	for _, x := range places(&after) {
		left[x.u.Id] = x.u
	}
	for _, x := range places(&before) {
		y := left[x.u.Id]
		if !slices.Contains(writes, wordsKey(x)) && (y == nil || !slices.Equal(y.Words, x.u.Words)) {
			t.Fatal(x.u.Id, "words have changed")
		}
		if !slices.Contains(writes, headKey(x)) && (y == nil || !slices.Equal(y.Head, x.u.Head)) {
			t.Fatal(x.u.Id, "heading has changed")
		}
		if !slices.Contains(writes, kidsKey(x)) && (y == nil || !slices.EqualFunc(y.Kids, x.u.Kids, sameKid)) {
			t.Fatal(x.u.Id, "kids have changed")
		}
	}
	for _, x := range append(places(&before), places(&after)...) {
		if key := nameKey(x.u.Kind, x.u.Label); !slices.Contains(writes, key) && !slices.Equal(named(before, key.Name), named(after, key.Name)) {
			t.Fatal(key, "units have changed")
		}
	}
}

// sameKid reports whether two kids are the same for the list of kids of their parent.
func sameKid(a, b api.Unit) bool { return a.Id == b.Id && a.Kind == b.Kind && a.Label == b.Label }

// named returns the path of IDs to each unit of that kind and label.
func named(u api.Unit, name api.Step) []api.Id {
	var out []api.Id
	for _, x := range places(&u) {
		if x.u.Kind != name.Kind || x.u.Label != name.Label {
			continue
		}
		for y := x; y != nil; y = y.above {
			out = append(out, y.u.Id)
		}
	}
	return out
}
