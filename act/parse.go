package act

import (
	"strconv"

	"pandect/api"
	"pandect/syntax"
	"pandect/token"
)

// Parse returns the act whose text is s, or a byte offset and an error.
func Parse(s string) (api.Act, int, api.Errno) {
	if len(s) > api.MaxText {
		return api.Act{}, 0, api.ErrFull
	}
	tokens, end, errno := token.Scan(s)
	if errno != api.OK {
		return api.Act{}, end, errno
	}
	var a api.Act
	for i, seg := range segments(s, tokens) {
		at, errno := readSegment(&a, i, seg.text)
		if errno != api.OK {
			return api.Act{}, seg.start + at, errno
		}
		if !seg.ended {
			return api.Act{}, end, api.ErrForm
		}
	}
	return a, 0, api.OK
}

// segment is a segment of an input: its offset, its text, and whether a semicolon follows.
type segment struct {
	start int
	text  string
	ended bool
}

// segments divides an input into its segments. A last one without tokens is left out, unless it is the first one too.
func segments(s string, tokens []api.Token) []segment {
	var out []segment
	first := 0 // the index of the first token of the segment, or of the semicolon behind it if it has none
	for i, t := range tokens {
		if t.Kind == api.TokenSign && t.Text == semicolon {
			start := tokens[first].At
			out = append(out, segment{start, s[start:t.At], true})
			first = i + 1
		}
	}
	start := len(s)
	if first < len(tokens) {
		start = tokens[first].At
	}
	if start < len(s) || len(out) == 0 {
		out = append(out, segment{start, s[start:], false})
	}
	return out
}

// readSegment adds what the segment with the index i says to the act, or returns an error and its offset within the segment.
func readSegment(a *api.Act, i int, s string) (int, api.Errno) {
	if i == 0 {
		return readHead(a, s)
	}
	if len(a.Items) == api.MaxItems {
		return 0, api.ErrFull
	}
	it, at, errno := syntax.Parse(s)
	if errno == api.OK {
		a.Items = append(a.Items, it)
	}
	return at, errno
}

// readHead reads the first segment, or returns an error and its offset within the segment.
func readHead(a *api.Act, s string) (int, api.Errno) {
	tokens, end, _ := token.Scan(s) // without an error, since the whole input has been scanned
	h := newHead(a)
	for _, t := range tokens {
		if !h.consume(t) {
			return t.At, api.ErrForm
		}
	}
	if len(h.left) > 0 {
		return end, api.ErrForm
	}
	return 0, api.OK
}

// head reads the first segment into an act. It contains the elements that are still to be read.
type head struct {
	act  *api.Act
	left []element
}

// element is an element of the first segment: a function that consumes a token of a kind, and reports whether the token can occur there.
type element struct {
	kind int
	take func(text string) bool
}

// newHead returns a head that reads into the act.
func newHead(a *api.Act) *head {
	h := &head{act: a}
	h.left = []element{
		keyword("act"),
		numberIn(&a.Number, isNumber),
		textIn(api.TokenQuote, &a.Title, isTitle),
		keyword("day"),
		numberIn(&a.Day, isDay),
		{api.TokenWord, h.takeRule},
	}
	return h
}

// consume reads a token as the next element, and reports whether it can occur there.
func (h *head) consume(t api.Token) bool {
	if len(h.left) == 0 || h.left[0].kind != t.Kind {
		return false
	}
	next := h.left[0]
	h.left = h.left[1:]
	return next.take(t.Text)
}

// takeRule consumes the first word of the commencement rule, which decides what follows.
func (h *head) takeRule(word string) bool {
	start := &h.act.Start
	switch word {
	case "from":
		start.Kind = api.OnDay
		h.left = []element{keyword("day"), numberIn(&start.Day, isDay)}
	case "by":
		start.Kind = api.OnOrder
		h.left = []element{keyword("order")}
	case "on":
		start.Kind = api.OnEvent
		h.left = []element{keyword("event"), textIn(api.TokenWord, &start.Event, isName)}
	default:
		return false
	}
	return true
}

// keyword returns the element that is the word.
func keyword(word string) element {
	return element{api.TokenWord, func(s string) bool { return s == word }}
}

// numberIn returns the element that is a valid number, which is kept in field.
func numberIn(field *int, valid func(n int) bool) element {
	return element{api.TokenNumber, func(s string) bool {
		n, err := strconv.Atoi(s)
		*field = n
		return err == nil && valid(n)
	}}
}

// textIn returns the element that is a token of the kind with a valid text, which is kept in field.
func textIn(kind int, field *string, valid func(s string) bool) element {
	return element{kind, func(s string) bool {
		*field = s
		return valid(s)
	}}
}
