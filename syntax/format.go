package syntax

import (
	"strconv"

	"pandect/address"
	"pandect/api"
	"pandect/plaintext"
	"pandect/token"
	"pandect/wordseq"
)

// Format returns the text of an instruction, ErrArg if it is not valid, or ErrFull if the text is too long.
func Format(it api.Item) (string, api.Errno) {
	if !Valid(it) {
		return "", api.ErrArg
	}
	text := textOf(it)
	if len(text) > api.MaxText {
		return "", api.ErrFull
	}
	return text, api.OK
}

// textOf returns the text of a valid instruction.
func textOf(it api.Item) string {
	if IsAmendment(it.Kind) {
		return amendmentText(it) + endingText(it)
	}
	return orderText(it)
}

// amendmentText returns the text of an instruction of the kinds Insert to Move, but for its purpose and its start.
func amendmentText(it api.Item) string {
	at := addressText(it.At)
	switch it.Kind {
	case api.Insert:
		return placeText(it.Where, at) + " insert " + unitText(it.Unit)
	case api.Repeal:
		return "repeal " + at
	case api.ReplaceWords:
		return "in " + at + " for " + wordsText(it.Old) + " put " + wordsText(it.New) + nthText(it.Nth)
	case api.InsertWords:
		if len(it.Old) == 0 {
			return "in " + at + " ahead of all put " + wordsText(it.New)
		}
		return "in " + at + " behind " + wordsText(it.Old) + " put " + wordsText(it.New) + nthText(it.Nth)
	case api.Heading:
		return "head " + at + " as " + wordsText(it.New)
	case api.Relabel:
		return "number " + at + " as " + it.Label
	}
	return "move " + at + space + placeText(it.Where, addressText(it.To))
}

// orderText returns the text of an instruction of the kinds Commence to Correct.
func orderText(it api.Item) string {
	switch it.Kind {
	case api.DeclareEvent:
		return "happen " + it.Event + " on day " + strconv.Itoa(it.Day)
	case api.Correct:
		return "correct" + referenceText(it) + " as " + textOf(it.By[0])
	}
	return KindName(it.Kind) + referenceText(it) + " from day " + strconv.Itoa(it.Day)
}

// referenceText returns what the text of an order contains for the instruction, or the whole act, that it refers to.
func referenceText(it api.Item) string {
	text := " act " + strconv.Itoa(it.Act)
	if it.Item != wholeAct {
		text += " item " + strconv.Itoa(it.Item)
	}
	return text
}

// addressText returns the text of an address.
func addressText(p []api.Step) string {
	if len(p) == 0 {
		return allWord
	}
	return address.Format(p...)
}

// placeText returns what a text contains for a position relative to the unit with the address at.
func placeText(where int, at string) string {
	switch where {
	case api.First:
		return "into " + at + " first"
	case api.Last:
		return "into " + at + " last"
	case api.After:
		return "behind " + at
	}
	return "ahead of " + at
}

// unitText returns a unit as a quoted string.
func unitText(u api.Unit) string {
	text, _ := plaintext.Format(u) // the unit of a valid instruction has a text
	return token.Quote(text)
}

// wordsText returns a word sequence as a quoted string.
func wordsText(l []string) string { return token.Quote(wordseq.Join(l...)) }

// nthText returns what a text contains for the occurrence that is meant.
func nthText(nth int) string {
	if nth == 0 {
		return " each"
	}
	return " at " + strconv.Itoa(nth)
}

// endingText returns what the text of an amendment ends with: its purpose and its start.
func endingText(it api.Item) string {
	text := ""
	if it.For != "" {
		text = " read for " + it.For
	}
	switch it.Start.Kind {
	case api.OnDay:
		text += " from day " + strconv.Itoa(it.Start.Day)
	case api.OnOrder:
		text += " by order"
	case api.OnEvent:
		text += " on event " + it.Start.Event
	}
	return text
}
