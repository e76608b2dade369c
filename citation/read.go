package citation

import (
	"slices"
	"strings"

	"pandect/api"
	"pandect/wordseq"
)

const marks = ",;.:)" // one of them may follow the last word of a citation

// Scan returns the citations that occur in a sequence of words.
func Scan(l ...string) []api.Cite {
	var out []api.Cite
	for at := 0; at < len(l); {
		c, ok := longest(l[at:])
		if !ok {
			at++
			continue
		}
		c.From, c.At = at, at+c.At
		out = append(out, c)
		at = c.At
	}
	return out
}

// Parse returns the citation whose Format is s.
func Parse(s string) (api.Cite, api.Errno) {
	l, _ := wordseq.Split(s) // without words, and so without a citation, if they are not valid
	c, ok := longest(l)
	if !ok || Format(c) != s {
		return api.Cite{}, api.ErrForm
	}
	return c, api.OK
}

// longest returns the longest citation that occurs at the beginning of the words, or false if none does.
func longest(l []string) (api.Cite, bool) {
	r, ok := firstOf(
		inOrder(opening(api.This), unlabelled, optional(steps)),
		inOrder(opening(api.Said), unlabelled, optional(steps)),
		inOrder(opening(api.Former), optional(book), steps),
		inOrder(optional(book), stepsOrRange),
	)(reader{rest: l})
	return r.cite, ok
}

// reader has read the beginning of a citation.
type reader struct {
	cite api.Cite // what has been read; At is the number of words
	rest []string // the words that can be read next
}

// continuation reads on from where a reader is, or returns false if other words follow.
type continuation func(r reader) (reader, bool)

// firstOf returns the first one of the continuations that is possible.
func firstOf(l ...continuation) continuation {
	return func(r reader) (reader, bool) {
		for _, goOn := range l {
			if next, ok := goOn(r); ok {
				return next, true
			}
		}
		return reader{}, false
	}
}

// inOrder returns the continuations one behind the other.
func inOrder(l ...continuation) continuation {
	return func(r reader) (reader, bool) {
		ok := true
		for i := 0; ok && i < len(l); i++ {
			r, ok = l[i](r)
		}
		return r, ok
	}
}

// optional returns the continuation if it is possible, and otherwise reads nothing.
func optional(c continuation) continuation {
	return firstOf(c, func(r reader) (reader, bool) { return r, true })
}

// opening reads the words that precede the steps of a citation of the kind.
func opening(kind int) continuation {
	return func(r reader) (reader, bool) {
		r.cite.Kind = kind
		for _, word := range strings.Fields(openings[kind]) {
			if r.take() != word {
				return reader{}, false
			}
		}
		return r, true
	}
}

// book reads the book step.
func book(r reader) (reader, bool) {
	ok := r.take() == one(api.Book)
	r.add(bookStep())
	return r, ok
}

// unlabelled reads a step without a label.
func unlabelled(r reader) (reader, bool) {
	r.add(api.Step{Kind: kindWith(one, r.take())})
	return r, Valid(r.cite)
}

// step reads a step with a label.
func step(r reader) (reader, bool) {
	kind := kindWith(one, r.take())
	r.add(api.Step{Kind: kind, Label: r.take()})
	return r, Valid(r.cite)
}

// steps reads as many steps as possible, at least one.
func steps(r reader) (reader, bool) {
	return inOrder(step, optional(steps))(r)
}

// stepsOrRange reads as many steps as possible, at least one, the last one of which may be that of a range.
func stepsOrRange(r reader) (reader, bool) {
	return firstOf(inOrder(step, optional(stepsOrRange)), rangeStep)(r)
}

// rangeStep reads the last step of a range and what follows it.
func rangeStep(r reader) (reader, bool) {
	r.cite.Kind = api.Range
	kind := kindWith(many, r.take())
	r.add(api.Step{Kind: kind, Label: r.take()})
	ok := r.take() == toWord
	r.cite.To = r.take()
	return r, ok && Valid(r.cite)
}

// one returns the word for one unit of the kind.
func one(kind int) string { return kindWords[kind].one }

// many returns the word for many units of the kind.
func many(kind int) string { return kindWords[kind].many }

// kindWith returns the first kind below the book for which wordOf returns the word, or noKind if there is none.
func kindWith(wordOf func(kind int) string, word string) int {
	for kind := api.Part; kind <= api.Note; kind++ {
		if wordOf(kind) == word {
			return kind
		}
	}
	return noKind
}

// add adds a step to the path, of which other continuations may be tried with other steps.
func (r *reader) add(s api.Step) {
	r.cite.Path = slices.Concat(r.cite.Path, []api.Step{s})
}

// take reads a word, or nothing if there are no more words. Behind a word with a mark no further word can be read, since a mark may follow the last word only.
func (r *reader) take() string {
	if len(r.rest) == 0 {
		return ""
	}
	word := r.rest[0]
	r.rest = r.rest[1:]
	r.cite.At++
	if last := len(word) - 1; last >= 0 && strings.IndexByte(marks, word[last]) >= 0 {
		word, r.rest = word[:last], nil
	}
	return word
}
