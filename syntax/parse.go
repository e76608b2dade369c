package syntax

import (
	"maps"
	"slices"
	"strconv"

	"pandect/address"
	"pandect/api"
	"pandect/label"
	"pandect/plaintext"
	"pandect/token"
	"pandect/unit"
	"pandect/wordseq"
)

// Parse returns the instruction with the text s; if there is an error, it also returns the byte offset.
func Parse(s string) (api.Item, int, api.Errno) {
	if len(s) > api.MaxText {
		return api.Item{}, 0, api.ErrFull
	}
	tokens, at, errno := token.Scan(s)
	if errno != api.OK {
		return api.Item{}, at, errno
	}
	r := reader{tokens: tokens}
	it := r.instruction(r.all())
	if len(r.tokens) > 0 { // one is refused, or follows the instruction; otherwise at is the end of s
		return api.Item{}, r.tokens[0].At, api.ErrForm
	}
	if r.refused {
		return api.Item{}, at, api.ErrForm
	}
	return it, 0, api.OK
}

// reader reads the tokens of an instruction. When it refuses a token, or the end, it takes no further ones, and what it returns has no meaning.
type reader struct {
	tokens  []api.Token // those not yet taken
	refused bool
}

// parsers contains, by its first word, for every phrase that can stand at a place, the function that reads what follows this word.
type parsers map[string]func() api.Item

// instruction reads an instruction that begins with one of the words of l.
func (r *reader) instruction(l parsers) api.Item {
	it := r.phrase(l)
	if IsAmendment(it.Kind) {
		it.For = r.purpose()
		it.Start = r.start()
	}
	return it
}

// phrase reads a phrase that begins with one of the words of l.
func (r *reader) phrase(l parsers) api.Item {
	word := r.take(func(t api.Token) bool { return t.Kind == api.TokenWord && l[t.Text] != nil })
	if r.refused {
		return api.Item{}
	}
	return l[word]()
}

// all returns the functions that read instructions.
func (r *reader) all() parsers {
	l := r.amendments()
	maps.Copy(l, r.orders())
	return l
}

// amendments returns the functions that read instructions of the kinds Insert to Move, but for their purpose and their start.
func (r *reader) amendments() parsers {
	l := parsers{
		"repeal": func() api.Item { return api.Item{Kind: api.Repeal, At: r.address()} },
		"in": func() api.Item {
			at := r.address()
			it := r.phrase(r.wordings())
			it.At = at
			return it
		},
		"head": func() api.Item {
			at := r.address()
			r.expect("as")
			return api.Item{Kind: api.Heading, At: at, New: r.words(0)}
		},
		"number": func() api.Item {
			at := r.address()
			r.expect("as")
			return api.Item{Kind: api.Relabel, At: at, Label: r.label()}
		},
		"move": func() api.Item {
			at := r.address()
			place := r.phrase(r.places())
			return api.Item{Kind: api.Move, At: at, To: place.At, Where: place.Where}
		},
	}
	for word, place := range r.places() {
		l[word] = func() api.Item {
			it := place()
			r.expect("insert")
			it.Unit = r.unit()
			return it
		}
	}
	return l
}

// places returns the functions that read a position relative to an address, and return it as that of an Insert.
func (r *reader) places() parsers {
	return parsers{
		"into": func() api.Item {
			at := r.address()
			if r.optional("first") {
				return api.Item{At: at, Where: api.First}
			}
			r.expect("last")
			return api.Item{At: at, Where: api.Last}
		},
		"behind": func() api.Item { return api.Item{At: r.address(), Where: api.After} },
		"ahead": func() api.Item {
			r.expect("of")
			return api.Item{At: r.address(), Where: api.Before}
		},
	}
}

// wordings returns the functions that read which words change within a text, and how.
func (r *reader) wordings() parsers {
	change := func(kind, leastNew int) api.Item {
		it := api.Item{Kind: kind, Old: r.words(1)}
		r.expect("put")
		it.New = r.words(leastNew)
		it.Nth = r.nth()
		return it
	}
	return parsers{
		"for":    func() api.Item { return change(api.ReplaceWords, 0) },
		"behind": func() api.Item { return change(api.InsertWords, 1) },
		"ahead": func() api.Item {
			r.expect("of", allWord, "put")
			return api.Item{Kind: api.InsertWords, New: r.words(1)}
		},
	}
}

// orders returns the functions that read instructions of the kinds Commence to Correct.
func (r *reader) orders() parsers {
	dated := func(kind int) api.Item {
		it := api.Item{Kind: kind, Act: r.act(), Item: wholeAct}
		if r.optional("item") {
			it.Item = r.number(0, maxItem)
		}
		r.expect("from", "day")
		it.Day = r.day()
		return it
	}
	return parsers{
		"commence": func() api.Item { return dated(api.Commence) },
		"expire":   func() api.Item { return dated(api.Expire) },
		"revive":   func() api.Item { return dated(api.Revive) },
		"happen": func() api.Item {
			it := api.Item{Kind: api.DeclareEvent, Event: r.name()}
			r.expect("on", "day")
			it.Day = r.day()
			return it
		},
		"correct": func() api.Item {
			it := api.Item{Kind: api.Correct, Act: r.act()}
			r.expect("item")
			it.Item = r.number(0, maxItem)
			r.expect("as")
			it.By = []api.Item{r.instruction(r.amendments())}
			return it
		},
	}
}

// purpose reads the purpose of an amendment, if there is one.
func (r *reader) purpose() string {
	if !r.optional("read") {
		return ""
	}
	r.expect("for")
	return r.name()
}

// start reads the start of an amendment, if there is one.
func (r *reader) start() api.Start {
	switch {
	case r.optional("from"):
		r.expect("day")
		return api.Start{Kind: api.OnDay, Day: r.day()}
	case r.optional("by"):
		r.expect("order")
		return api.Start{Kind: api.OnOrder}
	case r.optional("on"):
		r.expect("event")
		return api.Start{Kind: api.OnEvent, Event: r.name()}
	}
	return api.Start{}
}

// isNext reports whether there is a next token that fits.
func (r *reader) isNext(fits func(t api.Token) bool) bool {
	return !r.refused && len(r.tokens) > 0 && fits(r.tokens[0])
}

// take takes the next token and returns its text, or refuses it if it does not fit.
func (r *reader) take(fits func(t api.Token) bool) string {
	if !r.isNext(fits) {
		r.refused = true
		return ""
	}
	text := r.tokens[0].Text
	r.tokens = r.tokens[1:]
	return text
}

// isWord returns the predicate that holds for the word.
func isWord(word string) func(t api.Token) bool {
	return func(t api.Token) bool { return t.Kind == api.TokenWord && t.Text == word }
}

// expect takes the words.
func (r *reader) expect(words ...string) {
	for _, word := range words {
		r.take(isWord(word))
	}
}

// optional takes the word if it is next, and reports whether it is.
func (r *reader) optional(word string) bool {
	if !r.isNext(isWord(word)) {
		return false
	}
	r.expect(word)
	return true
}

// name reads a name.
func (r *reader) name() string {
	return r.take(func(t api.Token) bool { return t.Kind == api.TokenWord && isName(t.Text) })
}

// label reads a label of a unit, which can be a number.
func (r *reader) label() string {
	return r.take(func(t api.Token) bool {
		return (t.Kind == api.TokenNumber || t.Kind == api.TokenLabel) && label.Valid(t.Text)
	})
}

// number reads a number with bounds.
func (r *reader) number(from, to int) int {
	n := 0
	r.take(func(t api.Token) bool {
		var err error
		n, err = strconv.Atoi(t.Text)
		return t.Kind == api.TokenNumber && err == nil && n >= from && n <= to
	})
	return n
}

// day reads the number of a day.
func (r *reader) day() int { return r.number(0, api.MaxDay) }

// act reads the number of an act that an order refers to.
func (r *reader) act() int {
	r.expect("act")
	return r.number(1, api.MaxAct)
}

// nth reads which occurrence is meant; 0 stands for each one, and is not written as a number.
func (r *reader) nth() int {
	if r.optional("each") {
		return 0
	}
	r.expect("at")
	return r.number(1, api.MaxWords)
}

// words reads a quoted word sequence with at least so many words.
func (r *reader) words(least int) []string {
	var l []string
	r.take(func(t api.Token) bool {
		var errno api.Errno
		l, errno = wordseq.Split(t.Text)
		return t.Kind == api.TokenQuote && errno == api.OK && len(l) >= least
	})
	return l
}

// unit reads the quoted text of a unit that can be inserted.
func (r *reader) unit() api.Unit {
	var u api.Unit
	r.take(func(t api.Token) bool {
		var errno api.Errno
		u, _, errno = plaintext.Parse(t.Text)
		return t.Kind == api.TokenQuote && errno == api.OK && u.Kind != api.Book
	})
	return u
}

// address reads an address.
func (r *reader) address() []api.Step {
	if r.optional(allWord) {
		return nil
	}
	p := []api.Step{r.step(nil)}
	for r.isNext(stepAfter(p)) {
		p = append(p, r.step(p))
	}
	return p
}

// step reads the step of an address that follows the steps p.
func (r *reader) step(p []api.Step) api.Step {
	s := api.Step{Kind: kindNamed(r.take(stepAfter(p)))}
	if s.Kind != api.Book {
		s.Label = r.label()
	}
	return s
}

// stepAfter returns the predicate that holds for the first words of the steps that can follow the steps p.
func stepAfter(p []api.Step) func(t api.Token) bool {
	return func(t api.Token) bool {
		next := api.Step{Kind: kindNamed(t.Text)}
		if next.Kind != api.Book {
			next.Label = "1" // any valid one: whether a step can follow depends on its kind only
		}
		return t.Kind == api.TokenWord && address.Valid(slices.Concat(p, []api.Step{next})...)
	}
}

// kindNamed returns the kind of units with the given name, or noKind if there is none.
func kindNamed(name string) int {
	for kind := api.Book; kind <= api.Note; kind++ {
		if unit.KindName(kind) == name {
			return kind
		}
	}
	return noKind
}
