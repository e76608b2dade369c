package footprint

import (
	"cmp"
	"slices"
	"strconv"

	"pandect/address"
	"pandect/api"
	"pandect/target"
	"pandect/unit"
)

const period = "." // between the numbers of an ID

// keySet is a set of keys.
type keySet map[api.Key]bool

// add adds the key of the given kind for a unit.
func (s keySet) add(kind int, id api.Id) { s[api.Key{Kind: kind, Id: id}] = true }

// addName adds the name key of a unit.
func (s keySet) addName(u api.Unit) { s.addStep(api.Step{Kind: u.Kind, Label: u.Label}) }

// addStep adds the name key of a step.
func (s keySet) addStep(name api.Step) { s[api.Key{Kind: api.KeyName, Name: name}] = true }

// addSteps adds the name keys of the steps of an address, except for the book step.
func (s keySet) addSteps(p []api.Step) {
	for _, name := range p {
		if name.Kind != api.Book {
			s.addStep(name)
		}
	}
}

// addParent adds the key for the kids of the unit that has x as a kid, unless x is the root.
func (s keySet) addParent(u, x api.Unit) {
	if parent, _, ok := unit.Parent(u, x.Id); ok {
		s.add(api.KeyKids, parent)
	}
}

// addDestination adds the key for the kids of the unit into which an Insert or a Move puts its unit, if there is one.
func (s keySet) addDestination(u api.Unit, it api.Item) {
	if parent, _, errno := target.Destination(u, it); errno == api.OK {
		s.add(api.KeyKids, parent)
	}
}

// sorted returns the keys in ascending order.
func (s keySet) sorted() []api.Key {
	var out []api.Key
	for k := range s {
		out = append(out, k)
	}
	slices.SortFunc(out, compare)
	return out
}

// compare compares two keys by their order.
func compare(a, b api.Key) int {
	return cmp.Or(
		cmp.Compare(a.Kind, b.Kind),
		cmp.Compare(a.Id.Act, b.Id.Act), cmp.Compare(a.Id.Item, b.Id.Item), cmp.Compare(a.Id.N, b.Id.N),
		cmp.Compare(a.Name.Kind, b.Name.Kind), cmp.Compare(a.Name.Label, b.Name.Label))
}

// Intersect reports whether a and b have a key in common.
func Intersect(a, b []api.Key) bool {
	in := keySet{}
	for _, k := range a {
		in[k] = true
	}
	return slices.ContainsFunc(b, func(k api.Key) bool { return in[k] })
}

// FormatKey returns the text of a key.
func FormatKey(k api.Key) string {
	switch k.Kind {
	case api.KeyWords:
		return "words " + formatID(k.Id)
	case api.KeyHead:
		return "head " + formatID(k.Id)
	case api.KeyKids:
		return "kids " + formatID(k.Id)
	case api.KeyName:
		return "name " + address.Format(k.Name)
	}
	return ""
}

// formatID returns the text of an ID.
func formatID(id api.Id) string {
	return strconv.Itoa(id.Act) + period + strconv.Itoa(id.Item) + period + strconv.Itoa(id.N)
}
