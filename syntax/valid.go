package syntax

import (
	"pandect/address"
	"pandect/api"
	"pandect/label"
	"pandect/plaintext"
	"pandect/unit"
	"pandect/wordseq"
)

// check looks at the fields that the kind of an instruction has. It clears each of them, since those that are left must be zero.
type check struct {
	left api.Item
	ok   bool // whether all fields so far are as they must be
}

// Valid reports whether an instruction is valid.
func Valid(it api.Item) bool {
	c := check{left: it, ok: it.Kind >= api.Insert && it.Kind <= api.Correct}
	if IsAmendment(it.Kind) {
		c.amendment()
	} else {
		c.order()
	}
	return c.ok && Equal(c.left, api.Item{Kind: it.Kind})
}

// amendment checks the fields of an instruction of the kinds Insert to Move.
func (c *check) amendment() {
	it := &c.left
	c.address(&it.At)
	switch it.Kind {
	case api.Insert:
		c.number(&it.Where, api.First, api.Before)
		c.unit(&it.Unit)
	case api.ReplaceWords:
		c.words(&it.Old, 1)
		c.words(&it.New, 0)
		c.number(&it.Nth, 0, api.MaxWords)
	case api.InsertWords:
		maxNth := api.MaxWords
		if len(it.Old) == 0 {
			maxNth = 0
		}
		c.words(&it.Old, 0)
		c.words(&it.New, 1)
		c.number(&it.Nth, 0, maxNth)
	case api.Heading:
		c.words(&it.New, 0)
	case api.Relabel:
		c.require(label.Valid(it.Label))
		it.Label = ""
	case api.Move:
		c.address(&it.To)
		c.number(&it.Where, api.First, api.Before)
	}
	c.require(it.For == "" || isName(it.For))
	c.require(isStart(it.Start))
	it.For, it.Start = "", api.Start{}
}

// order checks the fields of an instruction of the kinds Commence to Correct.
func (c *check) order() {
	it := &c.left
	switch it.Kind {
	case api.Commence, api.Expire, api.Revive:
		c.number(&it.Act, 1, api.MaxAct)
		c.number(&it.Item, wholeAct, maxItem)
		c.number(&it.Day, 0, api.MaxDay)
	case api.DeclareEvent:
		c.require(isName(it.Event))
		it.Event = ""
		c.number(&it.Day, 0, api.MaxDay)
	case api.Correct:
		c.number(&it.Act, 1, api.MaxAct)
		c.number(&it.Item, 0, maxItem)
		c.require(len(it.By) == 1 && IsAmendment(it.By[0].Kind) && Valid(it.By[0]))
		it.By = nil
	}
}

// require keeps that the instruction is not valid if a field is not as it must be.
func (c *check) require(ok bool) { c.ok = c.ok && ok }

// number checks a field that is a number with bounds.
func (c *check) number(field *int, from, to int) {
	c.require(*field >= from && *field <= to)
	*field = 0
}

// address checks a field that is an address.
func (c *check) address(field *[]api.Step) {
	c.require(address.Valid(*field...))
	*field = nil
}

// words checks a field that is a word sequence with at least so many words.
func (c *check) words(field *[]string, least int) {
	c.require(len(*field) >= least && wordseq.Valid(*field...))
	*field = nil
}

// unit checks a field that is a unit to be inserted.
func (c *check) unit(field *api.Unit) {
	_, errno := plaintext.Format(*field)
	c.require(field.Kind != api.Book && unit.IsBare(*field) && errno == api.OK)
	*field = api.Unit{}
}

// isStart reports whether an instruction can have the start: the zero one, or another one without the fields of other kinds.
func isStart(s api.Start) bool {
	switch s.Kind {
	case api.AsAct, api.OnOrder:
		return s.Day == 0 && s.Event == ""
	case api.OnDay:
		return s.Day >= 0 && s.Day <= api.MaxDay && s.Event == ""
	case api.OnEvent:
		return s.Day == 0 && isName(s.Event)
	}
	return false
}
