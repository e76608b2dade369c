package corpus

import (
	"slices"

	"pandect/api"
	"pandect/syntax"
)

// register contains what counts in a list of gazettes. It shares its memory with them.
type register struct {
	acts        map[int]api.Act                 // by Number
	repeated    map[int]bool                    // the numbers of duplicates
	corrections map[api.ItemRef]api.EnactedItem // by the reference that they contain, the last one in legal order
}

// newRegister returns the register of no gazettes.
func newRegister() register {
	return register{acts: map[int]api.Act{}, repeated: map[int]bool{}, corrections: map[api.ItemRef]api.EnactedItem{}}
}

// registerOf returns the register of a list of gazettes.
func registerOf(l []api.Gazette) register {
	r := newRegister()
	for _, g := range l {
		r.add(g)
	}
	return r
}

// add adds the next gazette of the list.
func (r register) add(g api.Gazette) {
	for _, a := range g.Acts {
		if _, ok := r.acts[a.Number]; ok {
			r.repeated[a.Number] = true
			continue
		}
		r.acts[a.Number] = a
		for i, it := range a.Items {
			if isCorrection(it) {
				r.addCorrection(api.EnactedItem{Act: a.Number, Item: i, Day: a.Day, It: it})
			}
		}
	}
}

// isCorrection reports whether an item replaces the item to which it refers.
func isCorrection(it api.Item) bool {
	return it.Kind == api.Correct && len(it.By) > 0 && syntax.IsAmendment(it.By[0].Kind)
}

// addCorrection adds a correction, unless a later one in legal order is known.
func (r register) addCorrection(d api.EnactedItem) {
	ref := api.ItemRef{Act: d.It.Act, Item: d.It.Item}
	if last, ok := r.corrections[ref]; !ok || Compare(d, last) > 0 {
		r.corrections[ref] = d
	}
}

// correctedItem returns the item with the index i of an act, as corrected.
func (r register) correctedItem(a api.Act, i int) api.Item {
	it := a.Items[i]
	if last, ok := r.corrections[api.ItemRef{Act: a.Number, Item: i}]; ok && syntax.IsAmendment(it.Kind) {
		return last.It.By[0]
	}
	return it
}

// corrected returns the act with its items as corrected.
func (r register) corrected(a api.Act) api.Act {
	a.Items = slices.Clone(a.Items)
	for i := range a.Items {
		a.Items[i] = r.correctedItem(a, i)
	}
	return a
}

// find returns the enacted item with the given reference.
func (r register) find(number, item int) (api.EnactedItem, bool) {
	a, ok := r.acts[number]
	if !ok || item < 0 || item >= len(a.Items) {
		return api.EnactedItem{}, false
	}
	return api.EnactedItem{Act: number, Item: item, Day: a.Day, It: r.correctedItem(a, item)}, true
}
