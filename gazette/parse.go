package gazette

import (
	"strconv"

	"pandect/act"
	"pandect/api"
	"pandect/token"
)

// Parse returns the gazette whose text is s, or an error with the byte offset at which the text is invalid.
func Parse(s string) (api.Gazette, int, api.Errno) {
	if len(s) > api.MaxText {
		return api.Gazette{}, 0, api.ErrFull
	}
	tokens, at, errno := token.Scan(s)
	if errno != api.OK {
		return api.Gazette{}, at, errno
	}
	g, rest, ok := readHead(tokens)
	if !ok || len(rest) > 0 && !beginsAct(rest[0]) { // either way it is the first token of rest, or the end, that is refused
		return api.Gazette{}, offset(rest, s), api.ErrForm
	}
	g.Acts, at, errno = readActs(s, rest)
	if errno != api.OK {
		return api.Gazette{}, at, errno
	}
	return g, 0, api.OK
}

// offset returns the offset of the first one of the last tokens of s, or the length of s if there are none.
func offset(last []api.Token, s string) int {
	if len(last) == 0 {
		return len(s)
	}
	return last[0].At
}

// beginsAct reports whether a clause that begins with the token begins an act.
func beginsAct(t api.Token) bool { return t.Kind == api.TokenWord && t.Text == "act" }

// endsClause reports whether a clause ends before the token.
func endsClause(t api.Token) bool { return t.Kind == api.TokenSign && t.Text == semicolon }

// readActs returns the acts of a text whose acts consist of its last tokens, or the offset of the first error.
func readActs(s string, last []api.Token) ([]api.Act, int, api.Errno) {
	var acts []api.Act
	starts := append(actStarts(last), len(s)) // so that each section ends where the next one starts
	for i, next := range starts[1:] {
		start := starts[i]
		if i == api.MaxActs {
			return nil, start, api.ErrFull
		}
		a, at, errno := act.Parse(s[start:next])
		if errno != api.OK {
			return nil, start + at, errno
		}
		acts = append(acts, a)
	}
	return acts, 0, api.OK
}

// actStarts returns the offsets at which the sections of the acts start. The first token begins a clause.
func actStarts(tokens []api.Token) []int {
	var starts []int
	for i, t := range tokens {
		if beginsAct(t) && (i == 0 || endsClause(tokens[i-1])) {
			starts = append(starts, t.At)
		}
	}
	return starts
}

// readHead returns what the first clause says, and the tokens behind its semicolon. If a token is not allowed, or is missing, it returns the tokens from there on, and false.
func readHead(tokens []api.Token) (api.Gazette, []api.Token, bool) {
	h := newHead()
	for len(h.left) > 0 {
		if len(tokens) == 0 || !h.consume(tokens[0]) {
			return api.Gazette{}, tokens, false
		}
		tokens = tokens[1:]
	}
	return h.gazette, tokens, true
}

// head reads the first clause into a gazette. It contains the elements that are still to be read.
type head struct {
	gazette api.Gazette
	left    []element
}

// element is an element of the first clause: a function that consumes a token, and reports whether it is allowed there.
type element struct {
	take func(t api.Token) bool
}

// newHead returns a head that has not read anything.
func newHead() *head {
	h := &head{}
	h.left = []element{
		exactly(api.TokenWord, "gazette"),
		numberIn(&h.gazette.Number, isNumber),
		exactly(api.TokenWord, "day"),
		numberIn(&h.gazette.Day, isDay),
		{h.takeLink},
	}
	return h
}

// consume reads a token as the next element, and reports whether it is allowed there.
func (h *head) consume(t api.Token) bool {
	next := h.left[0]
	h.left = h.left[1:]
	return next.take(t)
}

// takeLink consumes the word that tells whether there is a preceding gazette, which decides what follows.
func (h *head) takeLink(t api.Token) bool {
	if t.Kind != api.TokenWord {
		return false
	}
	ending := exactly(api.TokenSign, semicolon)
	switch t.Text {
	case "first":
		h.left = []element{ending}
	case "behind":
		h.left = []element{{h.takePrior}, ending}
	default:
		return false
	}
	return true
}

// takePrior consumes the digest of the preceding gazette.
func (h *head) takePrior(t api.Token) bool {
	h.gazette.Prior = t.Text
	return t.Kind == api.TokenQuote && isDigest(t.Text)
}

// exactly returns the element that is the token of the kind with the text.
func exactly(kind int, text string) element {
	return element{func(t api.Token) bool { return t.Kind == kind && t.Text == text }}
}

// numberIn returns the element that is a valid number, which is kept in field.
func numberIn(field *int, valid func(n int) bool) element {
	return element{func(t api.Token) bool {
		n, err := strconv.Atoi(t.Text)
		*field = n
		return t.Kind == api.TokenNumber && err == nil && valid(n)
	}}
}
