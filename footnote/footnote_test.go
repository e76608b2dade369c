package footnote_test

import (
	"fmt"
	"math"
	"math/rand"
	"regexp"
	"slices"
	"strings"
	"testing"

	"pandect/api"
	"pandect/footnote"
	"pandect/unit"
)

// number returns the ID that ends in n.
func number(n int) api.Id { return api.Id{Act: 3, Item: 1, N: n} }

// marked returns the fields of the text as words with marks of the act.
func marked(act int, text string) []api.Word {
	var l []api.Word
	for i, s := range strings.Fields(text) {
		l = append(l, api.Word{Text: s, By: api.Mark{Act: act, Item: 2, At: i}})
	}
	return l
}

// unitOf returns a unit whose ID ends in n, with the words of the text.
func unitOf(n, kind int, label, text string, kids ...api.Unit) api.Unit {
	return api.Unit{Id: number(n), Kind: kind, Label: label, Words: marked(n, text), Kids: kids}
}

// note returns a note.
func note(n int, label string) api.Unit { return unitOf(n, api.Note, label, "text of a note") }

// section returns a section with the words of the text, and with notes of the labels, whose IDs end in the numbers from 1 on.
func section(text string, labels ...string) api.Unit {
	u := unitOf(100, api.Section, "5", text)
	for i, s := range labels {
		u.Kids = append(u.Kids, note(i+1, s))
	}
	return u
}

// textOf returns the text of the unit's words.
func textOf(u api.Unit) string {
	var l []string
	for _, w := range u.Words {
		l = append(l, w.Text)
	}
	return strings.Join(l, " ")
}

// labels returns the labels of the unit's children.
func labels(u api.Unit) string {
	var l []string
	for _, kid := range u.Kids {
		l = append(l, kid.Label)
	}
	return strings.Join(l, " ")
}

// copyOf returns a copy that shares nothing with u.
func copyOf(u api.Unit) api.Unit {
	u.Head, u.Words, u.Kids = slices.Clone(u.Head), slices.Clone(u.Words), slices.Clone(u.Kids)
	for i := range u.Kids {
		u.Kids[i] = copyOf(u.Kids[i])
	}
	return u
}

// nodes returns pointers to all units of a tree that shares nothing within itself, in document order.
func nodes(u *api.Unit) []*api.Unit {
	l := []*api.Unit{u}
	for i := range u.Kids {
		l = append(l, nodes(&u.Kids[i])...)
	}
	return l
}

// isZero reports whether the unit is the zero unit.
func isZero(u api.Unit) bool { return unit.Equal(u, api.Unit{}) }

// The model: it follows the definitions, word by word and note by note.

// anchorForm is the form of an anchor.
var anchorForm = regexp.MustCompile(`\A\^([1-9][0-9]{0,3}[A-Z]{0,3})\z`)

// labelOf returns the label of an anchor, or the empty string.
func labelOf(word string) string {
	if m := anchorForm.FindStringSubmatch(word); m != nil {
		return m[1]
	}
	return ""
}

// anchorsOf returns the labels of the anchors in the words.
func anchorsOf(l []api.Word) []string {
	var out []string
	for _, w := range l {
		if s := labelOf(w.Text); s != "" {
			out = append(out, s)
		}
	}
	return out
}

// noteAt returns the index of the note that an anchor with the label calls, or -1.
func noteAt(u api.Unit, label string) int {
	return slices.IndexFunc(u.Kids, func(kid api.Unit) bool { return kid.Kind == api.Note && kid.Label == label })
}

// findings returns what Check reports.
func findings(u api.Unit) []api.Finding {
	var out []api.Finding
	for i, w := range u.Words {
		s := labelOf(w.Text)
		if s == "" {
			continue
		}
		if slices.Contains(anchorsOf(u.Words[:i]), s) {
			out = append(out, api.Finding{At: i, Id: u.Id, Why: api.ErrExists, Text: s})
		} else if noteAt(u, s) < 0 {
			out = append(out, api.Finding{At: i, Id: u.Id, Why: api.ErrMissing, Text: s})
		}
	}
	for i, kid := range u.Kids {
		if kid.Kind == api.Note && (!slices.Contains(anchorsOf(u.Words), kid.Label) || noteAt(u, kid.Label) != i) {
			out = append(out, api.Finding{At: i, Id: kid.Id, Why: api.ErrNoTarget, Text: kid.Label})
		}
	}
	for _, kid := range u.Kids {
		out = append(out, findings(kid)...)
	}
	return out
}

// called returns the IDs of the notes that are called.
func called(u api.Unit) []api.Id {
	var out []api.Id
	for i, w := range u.Words {
		s := labelOf(w.Text)
		if at := noteAt(u, s); s != "" && at >= 0 && !slices.Contains(anchorsOf(u.Words[:i]), s) {
			out = append(out, u.Kids[at].Id)
		}
	}
	for _, kid := range u.Kids {
		out = append(out, called(kid)...)
	}
	return out
}

// renumbered returns the renumbered tree, which must be valid.
func renumbered(old api.Unit) api.Unit {
	u := copyOf(old)
	was := anchorsOf(old.Words)
	for i, w := range old.Words {
		if s := labelOf(w.Text); s != "" {
			u.Words[i].Text = fmt.Sprintf("^%d", slices.Index(was, s)+1)
		}
	}
	for i, kid := range old.Kids {
		u.Kids[i] = renumbered(kid)
		if kid.Kind == api.Note {
			u.Kids[i].Label = fmt.Sprint(slices.Index(was, kid.Label) + 1)
		}
	}
	return u
}

// check compares all functions with the model, and returns whether the tree is valid.
func check(t *testing.T, u api.Unit) bool {
	t.Helper()
	want := findings(u)
	if got := footnote.Check(u); !slices.Equal(got, want) {
		t.Fatalf("Check: %v, want %v", got, want)
	}
	valid := len(want) == 0
	if footnote.Valid(u) != valid {
		t.Fatalf("Valid: %v", !valid)
	}
	if got, want := footnote.Notes(u), called(u); !slices.Equal(got, want) {
		t.Fatalf("Notes: %v, want %v", got, want)
	}
	if got, want := footnote.Anchors(u), anchorsOf(u.Words); !slices.Equal(got, want) {
		t.Fatalf("Anchors: %q, want %q", got, want)
	}
	got, ok := footnote.Renumber(u)
	if ok != valid || !valid && !isZero(got) || valid && !unit.Equal(got, renumbered(u)) {
		t.Fatalf("Renumber: %v %v", got, ok)
	}
	return valid
}

// expect compares the findings of a tree with the given ones, and all functions with the model.
func expect(t *testing.T, u api.Unit, want ...api.Finding) {
	t.Helper()
	if got := footnote.Check(u); !slices.Equal(got, want) {
		t.Errorf("%q %q: %v, want %v", textOf(u), labels(u), got, want)
	}
	if check(t, u) != (len(want) == 0) {
		t.Errorf("%q %q: valid", textOf(u), labels(u))
	}
}

// at returns a finding for the unit whose ID ends in n.
func at(index, n int, why api.Errno, text string) api.Finding {
	return api.Finding{At: index, Id: number(n), Why: why, Text: text}
}

// P10.1: ParseAnchor and Anchors

func TestParseAnchor(t *testing.T) {
	for _, s := range []string{"1", "9", "10", "12A", "12AB", "9999", "9999ZZZ", "1AAA", "1000Z"} {
		if got, ok := footnote.ParseAnchor("^" + s); !ok || got != s {
			t.Errorf("%q %q %v", s, got, ok)
		}
		for _, word := range []string{s, "^^" + s, "a^" + s, " ^" + s, "^ " + s, "^" + s + "^", "^" + s + ".", "^" + s + " ", "^" + s + "a", "^" + s + "\n", "^" + s + "\x00", s + "^", s + "^" + s, "^0" + s, "^-" + s, "^+" + s, "^A" + s, "\u02c6" + s, "\xff^" + s, "^" + s + "^" + s, "^" + s + "ZZZZ"} {
			expectNoAnchor(t, word)
		}
	}
	for _, word := range []string{"", "^", "^^", "^^^", "^A", "^0", "^00", "^10000", "^1AAAA", "^1a", "^1.5", "^é", "^1é", "^\xff", "^1\xff", "word", "1^", "a^", "^１", strings.Repeat("^", 24), "^" + strings.Repeat("1", 23), strings.Repeat("^1", 1<<16), "^" + strings.Repeat("A", 1<<16)} {
		expectNoAnchor(t, word)
	}
}

// expectNoAnchor expects that the word is not an anchor, neither by itself nor in words.
func expectNoAnchor(t *testing.T, word string) {
	t.Helper()
	if got, ok := footnote.ParseAnchor(word); ok || got != "" {
		t.Errorf("%q %q %v", word, got, ok)
	}
	u := section("", "1")
	u.Words = []api.Word{{Text: word}}
	if got := footnote.Anchors(u); len(got) != 0 {
		t.Errorf("%q %q", word, got)
	}
	expect(t, u, at(0, 1, api.ErrNoTarget, "1"))
}

// TestParseAnchorBytes compares with the model all short words of some bytes.
func TestParseAnchorBytes(t *testing.T) {
	words := []string{""}
	for range 5 {
		for _, s := range words {
			if got, ok := footnote.ParseAnchor(s); got != labelOf(s) || ok != (labelOf(s) != "") {
				t.Fatalf("%q %q %v", s, got, ok)
			}
		}
		var longer []string
		for _, s := range words {
			for _, b := range []string{"^", "0", "1", "9", "A", "Z", "a", " ", "\xff"} {
				longer = append(longer, s+b)
			}
		}
		words = longer
	}
}

func TestAnchors(t *testing.T) {
	for text, want := range map[string]string{
		"": "", "fine": "", "^1": "1", "fine ^2 or ^1": "2 1", "^1 ^1 ^1": "1 1 1", "^ ^0 a^1 ^12A ^^1 ^3 ^1a": "12A 3", "^9999ZZZ word ^10000": "9999ZZZ",
	} {
		u := section(text, "7", "8")
		if got := strings.Join(footnote.Anchors(u), " "); got != want {
			t.Errorf("%q: %q, want %q", text, got, want)
		}
	}
}

// TestAnchorsOwnWords has anchors in a heading and in the words of children, which are not those of the unit.
func TestAnchorsOwnWords(t *testing.T) {
	u := section("a ^4", "1")
	u.Head = marked(1, "^1 ^2")
	u.Kids[0].Words = marked(1, "^3")
	u.Kids = append(u.Kids, unitOf(8, api.Para, "1", "^5"))
	if got := footnote.Anchors(u); !slices.Equal(got, []string{"4"}) {
		t.Error(got)
	}
}

// P10.2: Check, Valid and Notes

func TestCheckExample(t *testing.T) {
	expect(t, section("fine ^2 or ^1", "1", "2"))
	if got := footnote.Notes(section("fine ^2 or ^1", "1", "2")); !slices.Equal(got, []api.Id{number(2), number(1)}) {
		t.Error(got)
	}
	expect(t, api.Unit{})
	expect(t, section("fine"))
}

func TestCheckAnchors(t *testing.T) {
	const section100 = 100
	missing := func(i int, s string) api.Finding { return at(i, section100, api.ErrMissing, s) }
	exists := func(i int, s string) api.Finding { return at(i, section100, api.ErrExists, s) }
	for _, c := range []struct {
		u    api.Unit
		want []api.Finding
	}{
		{section("^1"), []api.Finding{missing(0, "1")}},
		{section("a b ^1 c ^2A"), []api.Finding{missing(2, "1"), missing(4, "2A")}},
		{section("^2 ^1", "1"), []api.Finding{missing(0, "2")}},
		{section("^1 ^10 ^1A", "1"), []api.Finding{missing(1, "10"), missing(2, "1A")}},
		// An anchor that occurs again, with and without a note.
		{section("^1 a ^1", "1"), []api.Finding{exists(2, "1")}},
		{section("^1 a ^1"), []api.Finding{missing(0, "1"), exists(2, "1")}},
		{section("^1 ^1 ^1", "1"), []api.Finding{exists(1, "1"), exists(2, "1")}},
		{section("^1 ^1 ^1"), []api.Finding{missing(0, "1"), exists(1, "1"), exists(2, "1")}},
		{section("^3 ^1 ^3 ^2 ^1", "1"), []api.Finding{missing(0, "3"), exists(2, "3"), missing(3, "2"), exists(4, "1")}},
	} {
		expect(t, c.u, c.want...)
	}
}

func TestCheckNotes(t *testing.T) {
	unused := func(i, n int, s string) api.Finding { return at(i, n, api.ErrNoTarget, s) }
	for _, c := range []struct {
		u    api.Unit
		want []api.Finding
	}{
		{section("", "1"), []api.Finding{unused(0, 1, "1")}},
		{section("fine ^2", "3", "2", "1"), []api.Finding{unused(0, 1, "3"), unused(2, 3, "1")}},
		// Two notes with one label: the first one is called, if any.
		{section("^1", "1", "1"), []api.Finding{unused(1, 2, "1")}},
		{section("", "1", "1"), []api.Finding{unused(0, 1, "1"), unused(1, 2, "1")}},
		{section("^1", "2", "1", "1", "1"), []api.Finding{unused(0, 1, "2"), unused(2, 3, "1"), unused(3, 4, "1")}},
		{section("^1 ^1", "1", "1"), []api.Finding{at(1, 100, api.ErrExists, "1"), unused(1, 2, "1")}},
		// Labels that are not valid cannot be called.
		{section("^0 ^x ^ ^10000", "0", "x", "", "10000"), []api.Finding{unused(0, 1, "0"), unused(1, 2, "x"), unused(2, 3, ""), unused(3, 4, "10000")}},
		{section("^1", "1", "^1"), []api.Finding{unused(1, 2, "^1")}},
	} {
		expect(t, c.u, c.want...)
	}
	if got := footnote.Notes(section("^1", "2", "1", "1")); !slices.Equal(got, []api.Id{number(2)}) {
		t.Error(got)
	}
}

// TestCheckOtherKids has children with the label of the anchor that are not notes, before and after a note.
func TestCheckOtherKids(t *testing.T) {
	for _, kind := range []int{math.MinInt, -1, api.Book, api.Part, api.Section, api.Para, api.Table, api.Row, api.Cell, 8, math.MaxInt} {
		u := section("a ^1")
		other := unitOf(50, kind, "1", "text")
		u.Kids = []api.Unit{other}
		expect(t, u, at(1, 100, api.ErrMissing, "1"))
		u.Kids = []api.Unit{other, note(7, "1")}
		expect(t, u)
		if got := footnote.Notes(u); !slices.Equal(got, []api.Id{number(7)}) {
			t.Error(kind, got)
		}
		u.Kids = []api.Unit{note(7, "1"), other}
		expect(t, u)
		u.Kids = []api.Unit{other, note(7, "2"), other}
		expect(t, u, at(1, 100, api.ErrMissing, "1"), at(1, 7, api.ErrNoTarget, "2"))
		u.Words = nil
		u.Kids = []api.Unit{other}
		expect(t, u)
	}
}

// TestCheckOtherUnits has the note of an anchor in the parent, in a child, in a sibling, and in the note itself.
func TestCheckOtherUnits(t *testing.T) {
	para := func(text string, kids ...api.Unit) api.Unit { return unitOf(10, api.Para, "1", text, kids...) }
	lost, idle := at(1, 10, api.ErrMissing, "1"), at(0, 1, api.ErrNoTarget, "1")
	parent := section("text", "1")
	parent.Kids = append(parent.Kids, para("a ^1"))
	expect(t, parent, idle, lost)
	child := section("a ^1")
	child.Kids = []api.Unit{para("text", note(1, "1"))}
	expect(t, child, at(1, 100, api.ErrMissing, "1"), idle)
	sibling := section("text")
	sibling.Kids = []api.Unit{para("a ^1"), unitOf(11, api.Para, "2", "text", note(1, "1"))}
	expect(t, sibling, lost, idle)
	own := section("text", "1")
	own.Kids[0].Words = marked(1, "a ^1")
	expect(t, own, idle, at(1, 1, api.ErrMissing, "1"))
	root := note(1, "1")
	root.Words = marked(1, "^1")
	expect(t, root, at(0, 1, api.ErrMissing, "1"))
	expect(t, note(1, "1")) // the root is the child of no unit
}

func TestCheckHead(t *testing.T) {
	u := section("text", "1")
	u.Head = marked(1, "^1 ^2 ^2")
	expect(t, u, at(0, 1, api.ErrNoTarget, "1"))
	u.Words = marked(1, "^1")
	expect(t, u)
	if got, ok := footnote.Renumber(u); !ok || !unit.Equal(got, u) {
		t.Error(got, ok)
	}
	u.Kids = nil
	u.Words = nil
	expect(t, u)
}

// TestCheckOrder has findings of all kinds in several units, whose order is that of the document.
func TestCheckOrder(t *testing.T) {
	u := api.Unit{Kids: []api.Unit{
		unitOf(1, api.Part, "1", "^1", unitOf(2, api.Section, "1", "^4 ^3 ^4", note(3, "9"), unitOf(4, api.Para, "1", "^5", note(5, "6")), note(6, "4"), note(7, "8"))),
		unitOf(8, api.Section, "2", "x ^1 ^1", unitOf(9, api.Para, "1", "^2", unitOf(10, api.Para, "1", "", note(11, "1"))), note(12, "1"), unitOf(13, api.Para, "2", "^1")),
	}}
	expect(t, u,
		at(0, 1, api.ErrMissing, "1"),
		at(1, 2, api.ErrMissing, "3"), at(2, 2, api.ErrExists, "4"), at(0, 3, api.ErrNoTarget, "9"), at(3, 7, api.ErrNoTarget, "8"),
		at(0, 4, api.ErrMissing, "5"), at(0, 5, api.ErrNoTarget, "6"),
		at(2, 8, api.ErrExists, "1"),
		at(0, 9, api.ErrMissing, "2"), at(0, 11, api.ErrNoTarget, "1"),
		at(0, 13, api.ErrMissing, "1"))
	if got := footnote.Notes(u); !slices.Equal(got, []api.Id{number(6), number(12)}) {
		t.Error(got)
	}
}

// TestNotesOrder has called notes in several units, in the order of their anchors and not of the children.
func TestNotesOrder(t *testing.T) {
	u := unitOf(1, api.Section, "1", "^3 ^1 ^2", note(2, "1"), unitOf(3, api.Para, "1", "^2 ^1", note(4, "1"), note(5, "2")), note(6, "2"), note(7, "3"))
	expect(t, u)
	want := []api.Id{number(7), number(2), number(6), number(5), number(4)}
	if got := footnote.Notes(u); !slices.Equal(got, want) {
		t.Error(got)
	}
	u.Words = marked(1, "^3 ^9 ^1 ^3 ^1 ^2 ^9")
	if got := footnote.Notes(u); !slices.Equal(got, want) {
		t.Error(got, "with anchors that occur again")
	}
	check(t, u)
}

// TestZeroIDs has notes that are different although their IDs are the same.
func TestZeroIDs(t *testing.T) {
	u := section("^1 ^2 ^1", "1", "2", "3", "1")
	u.Kids = append(u.Kids, unitOf(9, api.Para, "1", "^1", note(8, "1")))
	for _, x := range nodes(&u) {
		x.Id = api.Id{}
	}
	zero := func(i int, why api.Errno, s string) api.Finding { return api.Finding{At: i, Why: why, Text: s} }
	expect(t, u, zero(2, api.ErrExists, "1"), zero(2, api.ErrNoTarget, "3"), zero(3, api.ErrNoTarget, "1"))
	if got := footnote.Notes(u); !slices.Equal(got, make([]api.Id, 3)) {
		t.Error(got)
	}
	bare := section("^2 ^3 ^1", "1", "2", "3")
	for _, x := range nodes(&bare) {
		x.Id = api.Id{}
	}
	expect(t, bare)
	if got, ok := footnote.Renumber(bare); !ok || textOf(got) != "^1 ^2 ^3" || labels(got) != "3 1 2" || len(footnote.Notes(bare)) != 3 {
		t.Error(got, ok)
	}
}

// P10.3: Renumber

func TestRenumberExample(t *testing.T) {
	u := section("fine ^2 or ^1", "1", "2")
	got, ok := footnote.Renumber(u)
	if !ok || textOf(got) != "fine ^1 or ^2" || labels(got) != "2 1" || got.Kids[0].Id != number(1) || got.Kids[1].Id != number(2) {
		t.Error(got, ok)
	}
	check(t, u)
}

// TestRenumberText renumbers one and many notes, with labels that clash with the old ones.
func TestRenumberText(t *testing.T) {
	for _, c := range []struct{ text, labels, newText, newLabels string }{
		{"", "", "", ""}, {"fine", "", "fine", ""}, {"^1", "1", "^1", "1"}, {"a ^7B", "7B", "a ^1", "1"}, {"^2", "2", "^1", "1"},
		{"^1 ^2 ^3", "1 2 3", "^1 ^2 ^3", "1 2 3"}, {"^1 ^2 ^3", "3 2 1", "^1 ^2 ^3", "3 2 1"}, {"^3 ^2 ^1", "1 2 3", "^1 ^2 ^3", "3 2 1"},
		{"^2 ^3 ^1", "1 2 3", "^1 ^2 ^3", "3 1 2"}, {"^2 ^1 ^4 ^3", "4 3 2 1", "^1 ^2 ^3 ^4", "3 4 1 2"}, {"^2 ^3 ^4", "2 3 4", "^1 ^2 ^3", "1 2 3"},
		{"^1A ^1 ^10 ^2", "1 1A 2 10", "^1 ^2 ^3 ^4", "2 1 4 3"}, {"x ^9999ZZZ y ^9999", "9999 9999ZZZ", "x ^1 y ^2", "2 1"},
		{"^2 a^2 ^^2 ^ ^0 ^2a", "2", "^1 a^2 ^^2 ^ ^0 ^2a", "1"}, // only anchors are rewritten
	} {
		u := section(c.text, strings.Fields(c.labels)...)
		got, ok := footnote.Renumber(u)
		if !ok || textOf(got) != c.newText || labels(got) != c.newLabels {
			t.Errorf("%q %q: %q %q %v", c.text, c.labels, textOf(got), labels(got), ok)
		}
		check(t, u)
	}
}

// TestRenumberMany renumbers so many notes that their numbers have several digits.
func TestRenumberMany(t *testing.T) {
	r := rand.New(rand.NewSource(4))
	for _, n := range []int{9, 10, 11, 64, 100, 1000, 9999} {
		u := section("")
		for i, k := range r.Perm(n) {
			u.Words = append(u.Words, api.Word{Text: fmt.Sprint("^", i+1)}, api.Word{Text: "and"})
			u.Kids = append(u.Kids, note(k+1, fmt.Sprint(k+1)))
		}
		r.Shuffle(len(u.Words), func(i, k int) { u.Words[i], u.Words[k] = u.Words[k], u.Words[i] })
		notes := footnote.Notes(u)
		got, ok := footnote.Renumber(u)
		if !ok || !footnote.Valid(got) || !slices.Equal(footnote.Notes(got), notes) {
			t.Fatal(n, ok)
		}
		for i, s := range footnote.Anchors(got) {
			if s != fmt.Sprint(i+1) || got.Kids[noteAt(got, s)].Id != notes[i] {
				t.Fatal(n, i, s)
			}
		}
	}
}

// TestRenumberKeepsEverythingElse has units of all kinds with notes at several depths, headings, marks and IDs.
func TestRenumberKeepsEverythingElse(t *testing.T) {
	u := deepSample()
	if !unit.Valid(u) || !check(t, u) {
		t.Fatal("sample")
	}
	got, ok := footnote.Renumber(u)
	if !ok {
		t.Fatal("Renumber")
	}
	want := deepSample()
	l := nodes(&want)
	l[2].Words[1].Text, l[2].Words[3].Text, l[2].Kids[0].Label, l[2].Kids[2].Label = "^1", "^2", "2", "1"
	l[4].Words[0].Text, l[4].Kids[1].Label = "^1", "1"
	l[5].Words[1].Text, l[5].Words[2].Text, l[5].Kids[0].Label, l[5].Kids[1].Label = "^1", "^2", "2", "1"
	if !unit.Equal(got, want) {
		t.Errorf("%v\n%v", got, want)
	}
	if by := got.Kids[0].Kids[0].Words[3].By; by != (api.Mark{Act: 2, Item: 2, At: 3}) {
		t.Error("the mark of an anchor:", by)
	}
}

// deepSample returns a book that is valid in the sense of layer 6 and in that of this layer.
func deepSample() api.Unit {
	inner := unitOf(5, api.Para, "1", "x ^3 ^1", note(6, "1"), note(7, "3"))
	para := unitOf(4, api.Para, "1", "^8 y", inner, note(8, "8"), unitOf(9, api.Table, "8", "", unitOf(10, api.Row, "1", "", unitOf(11, api.Cell, "1", "z"))))
	first := unitOf(2, api.Section, "1", "a ^2 b ^1", note(3, "1"), para, note(12, "2"))
	u := api.Unit{Kids: []api.Unit{unitOf(1, api.Part, "1", "", first), unitOf(13, api.Section, "2", "no notes")}}
	for i, x := range nodes(&u)[1:] {
		x.Head = marked(i, "head ^1 ^2")
	}
	return u
}

// TestRenumberInvalid gives each unit in turn a fault, in a tree that is valid otherwise.
func TestRenumberInvalid(t *testing.T) {
	faults := map[string]func(u *api.Unit){
		"missing": func(u *api.Unit) { u.Words = append(u.Words, api.Word{Text: "^77"}) },
		"unused":  func(u *api.Unit) { u.Kids = append(u.Kids, note(77, "77")) },
		"again": func(u *api.Unit) {
			u.Words = append(u.Words, api.Word{Text: "^77"}, api.Word{Text: "^77"})
			u.Kids = append(u.Kids, note(77, "77"))
		},
		"twins": func(u *api.Unit) {
			u.Words = append(u.Words, api.Word{Text: "^77"})
			u.Kids = append(u.Kids, note(77, "77"), note(78, "77"))
		},
	}
	base := deepSample()
	for i := range nodes(&base) {
		for name, fault := range faults {
			u := deepSample()
			fault(nodes(&u)[i])
			if got, ok := footnote.Renumber(u); ok || !isZero(got) || footnote.Valid(u) || len(footnote.Check(u)) != 1 {
				t.Error(i, name, got, ok)
			}
			check(t, u)
		}
		u := deepSample()
		x := nodes(&u)[i]
		x.Words = append(x.Words, api.Word{Text: "^77"})
		x.Kids = append(x.Kids, note(77, "77"))
		if got, ok := footnote.Renumber(u); !ok || !unit.Equal(got, renumbered(u)) {
			t.Error(i, "one more note")
		}
	}
}

// TestInvalidTrees has trees that are not valid in the sense of layer 6.
func TestInvalidTrees(t *testing.T) {
	cellNote := func(kind int) api.Unit { return unitOf(1, kind, "x", "a b ^2 ^1", note(2, "2"), note(3, "1")) }
	trees := []api.Unit{
		{Words: marked(1, "^2"), Kids: []api.Unit{note(1, "2")}},                                        // a book with words
		unitOf(1, api.Note, "1", "^2 ^1", note(2, "1"), note(3, "2")),                                   // notes of a note
		unitOf(1, api.Note, "1", "^3", unitOf(2, api.Note, "3", "^3", unitOf(3, api.Note, "3", "end"))), // notes in notes
		unitOf(1, api.Section, "1", "^1", note(1, "1"), unitOf(1, api.Para, "", "^5", note(1, "5")), unitOf(1, api.Para, "", "^5", note(1, "5"))),
		unitOf(1, api.Section, "1", "^2", note(1, "2"), api.Unit{Kind: api.Book, Label: "2"}),
	}
	for _, kind := range []int{math.MinInt, -1, api.Table, api.Row, api.Cell, 8, math.MaxInt} {
		trees = append(trees, cellNote(kind))
	}
	many := section("")
	for i := range 300 {
		many.Words = append(many.Words, api.Word{Text: fmt.Sprint("^", 300-i)})
		many.Kids = append(many.Kids, note(i+1, fmt.Sprint(i+1)))
	}
	trees = append(trees, many)
	odd := section("^2", "2")
	odd.Words = append(odd.Words, api.Word{}, api.Word{Text: "two words"}, api.Word{Text: "\xff\x00"}, api.Word{Text: "^1 "})
	trees = append(trees, odd)
	for i, u := range trees {
		if unit.Valid(u) {
			t.Error(i, "valid in the sense of layer 6")
		}
		if !check(t, u) {
			t.Error(i, footnote.Check(u))
		}
	}
	if got, _ := footnote.Renumber(trees[2]); got.Kids[0].Label != "1" || got.Kids[0].Kids[0].Label != "1" || textOf(got.Kids[0]) != "^1" || got.Label != "1" {
		t.Error(got)
	}
}

// P10.4

// expectConsequences looks at the consequences for a tree that is valid.
func expectConsequences(t *testing.T, u api.Unit) {
	t.Helper()
	once, ok1 := footnote.Renumber(u)
	twice, ok2 := footnote.Renumber(once)
	if !ok1 || !ok2 || !footnote.Valid(once) || !unit.Equal(once, twice) {
		t.Fatal(ok1, ok2, "renumbered twice")
	}
	if !slices.Equal(footnote.Notes(once), footnote.Notes(u)) {
		t.Fatal("renumbering changes what the anchors call")
	}
	for _, x := range nodes(&u) {
		calls := map[string]int{}
		for _, s := range footnote.Anchors(*x) {
			calls[s]++
		}
		for _, kid := range x.Kids {
			if kid.Kind == api.Note && calls[kid.Label] != 1 {
				t.Fatal("a note is called", calls[kid.Label], "times")
			}
		}
	}
}

// randomTree returns a tree with few labels, in which anchors and notes often match.
func randomTree(r *rand.Rand, depth int) api.Unit {
	words := []string{"^1", "^2", "^3", "^12A", "^4", "^", "^0", "a^1", "^^1", "^1^2", "fine"}
	names := []string{"1", "1", "2", "2", "3", "12A", "4", "0", "", "x", "^1"}
	kinds := []int{api.Note, api.Note, api.Note, api.Para, api.Section, api.Book, api.Cell, -1, 8}
	u := api.Unit{Id: number(r.Intn(5)), Kind: kinds[r.Intn(len(kinds))], Label: names[r.Intn(len(names))]}
	for i := range r.Intn(6) {
		u.Words = append(u.Words, api.Word{Text: words[r.Intn(len(words))], By: api.Mark{Act: 1, At: i}})
	}
	for i := range r.Intn(4) {
		u.Head = append(u.Head, api.Word{Text: words[r.Intn(len(words))], By: api.Mark{Act: 2, At: i}})
	}
	for depth > 0 && r.Intn(4) > 0 {
		u.Kids = append(u.Kids, randomTree(r, depth-1))
	}
	return u
}

// repaired returns the tree without faulty anchors and with notes for all others; it is valid.
func repaired(r *rand.Rand, u api.Unit) api.Unit {
	out := u
	out.Words, out.Kids = nil, nil
	for i, w := range u.Words {
		if s := labelOf(w.Text); s == "" || !slices.Contains(anchorsOf(u.Words[:i]), s) {
			out.Words = append(out.Words, w)
		}
	}
	for _, kid := range u.Kids {
		if kid.Kind != api.Note {
			out.Kids = append(out.Kids, repaired(r, kid))
		}
	}
	for i, s := range anchorsOf(out.Words) {
		out.Kids = slices.Insert(out.Kids, r.Intn(len(out.Kids)+1), note(10+i, s))
	}
	return out
}

// TestRandom compares all functions with the model on random trees.
func TestRandom(t *testing.T) {
	r := rand.New(rand.NewSource(1))
	valid := 0
	for range 5000 {
		u := randomTree(r, 3)
		if check(t, u) {
			valid++
			expectConsequences(t, u)
		}
		u = repaired(r, u)
		if !check(t, u) {
			t.Fatal(u)
		}
		expectConsequences(t, u)
	}
	if valid < 100 || valid > 4900 {
		t.Error(valid)
	}
}

// TestAllShortTexts compares all functions with the model for all short texts and lists of notes.
func TestAllShortTexts(t *testing.T) {
	texts := combinations([]string{"^1", "^2", "^1A", "a"}, 4)
	notes := combinations([]string{"1", "2", "1A"}, 3)
	valid := 0
	for _, text := range texts {
		for _, l := range notes {
			u := section(strings.Join(text, " "), l...)
			if check(t, u) {
				valid++
				expectConsequences(t, u)
			}
		}
	}
	if valid == 0 {
		t.Error("no tree is valid")
	}
}

// combinations returns all lists of up to n of the texts.
func combinations(l []string, n int) [][]string {
	out := [][]string{nil}
	if n == 0 {
		return out
	}
	for _, rest := range combinations(l, n-1) {
		for _, s := range l {
			out = append(out, append([]string{s}, rest...))
		}
	}
	return out
}

// P1

// TestHugeArguments gives a tree with 2^16 levels and wide ones to every function.
func TestHugeArguments(t *testing.T) {
	deep, want := unitOf(1, api.Note, "2", "end"), unitOf(1, api.Note, "1", "end")
	for range 1 << 16 {
		deep = unitOf(1, api.Note, "2", "^2", deep)
		want = unitOf(1, api.Note, "1", "^1", want)
	}
	want.Label = "2"
	got, ok := footnote.Renumber(deep)
	if !ok || !unit.Equal(got, want) || !footnote.Valid(deep) || len(footnote.Notes(deep)) != 1<<16 {
		t.Error("deep", ok)
	}
	wide := section("")
	wide.Words = slices.Repeat(marked(1, "^1 ^2 a"), 1<<15)
	wide.Kids = slices.Repeat([]api.Unit{note(1, "1"), note(2, strings.Repeat("1", 1000))}, 1<<15)
	l := footnote.Check(wide)
	if len(l) != 1<<16-1+1<<16-1 || l[0] != at(1, 100, api.ErrMissing, "2") || l[1] != at(3, 100, api.ErrExists, "1") || len(footnote.Anchors(wide)) != 1<<16 || !slices.Equal(footnote.Notes(wide), []api.Id{number(1)}) {
		t.Error("wide", len(l))
	}
	if got, ok := footnote.Renumber(wide); ok || !isZero(got) {
		t.Error("wide", ok)
	}
}

// Arguments and memory

// spoil overwrites everything in a tree, up to the capacities.
func spoil(u api.Unit) {
	spoilWords(u.Head)
	spoilWords(u.Words)
	kids := u.Kids[:cap(u.Kids)]
	for i := range kids {
		spoil(kids[i])
		kids[i] = api.Unit{Label: "spoiled"}
	}
}

// spoilWords overwrites words up to the capacity.
func spoilWords(l []api.Word) {
	l = l[:cap(l)]
	for i := range l {
		l[i] = api.Word{Text: "spoiled"}
	}
}

// roomy returns a copy of the tree whose lists have spare capacity.
func roomy(u api.Unit) api.Unit {
	u.Head, u.Words = roomyWords(u.Head), roomyWords(u.Words)
	kids := make([]api.Unit, 0, len(u.Kids)+3)
	for _, kid := range u.Kids {
		kids = append(kids, roomy(kid))
	}
	u.Kids = kids
	return u
}

// roomyWords returns a copy of the words that has spare capacity.
func roomyWords(l []api.Word) []api.Word { return append(make([]api.Word, 0, len(l)+3), l...) }

// unused reports whether the spare capacity of all lists of the tree is unused.
func unused(u api.Unit) bool {
	for _, l := range [][]api.Word{u.Head, u.Words} {
		if slices.ContainsFunc(l[len(l):cap(l)], func(w api.Word) bool { return w != api.Word{} }) {
			return false
		}
	}
	return !slices.ContainsFunc(u.Kids[len(u.Kids):cap(u.Kids)], func(kid api.Unit) bool { return !isZero(kid) }) && !slices.ContainsFunc(u.Kids, func(kid api.Unit) bool { return !unused(kid) })
}

func TestArgumentsAreNotModified(t *testing.T) {
	r := rand.New(rand.NewSource(2))
	for i := range 500 {
		want := randomTree(r, 3)
		if i%2 == 0 {
			want = repaired(r, want)
		}
		u := roomy(want)
		footnote.Anchors(u)
		footnote.Check(u)
		footnote.Notes(u)
		footnote.Valid(u)
		footnote.Renumber(u)
		if !unit.Equal(u, want) || !unused(u) {
			t.Fatal("the argument is modified")
		}
	}
}

// TestResultsAreNew changes each result, up to its capacity, and looks at the argument, then the argument, and looks at the results.
func TestResultsAreNew(t *testing.T) {
	want := deepSample()
	u := roomy(want)
	one, _ := footnote.Renumber(u)
	two, _ := footnote.Renumber(u)
	expected := renumbered(want)
	spoil(one)
	if !unit.Equal(u, want) || !unused(u) {
		t.Fatal("shares memory with the argument")
	}
	spoil(u)
	if !unit.Equal(two, expected) {
		t.Fatal("keeps the argument, or shares memory with another result")
	}
	for i, x := range nodes(&two) {
		y := nodes(&expected)[i]
		spoilWords(x.Head)
		if !slices.Equal(x.Words, y.Words) {
			t.Fatal(i, "a heading and words share memory")
		}
		copy(x.Head, y.Head)
		spoilWords(x.Words)
		copy(x.Words, y.Words)
		if !unit.Equal(two, expected) {
			t.Fatal(i, "the parts of a result share memory")
		}
	}
}

// TestSharedPartsAreCopied gives a tree in which units, headings and words are one and the same in memory.
func TestSharedPartsAreCopied(t *testing.T) {
	l := marked(1, "^2 a")
	para := api.Unit{Kind: api.Para, Label: "1", Head: l, Words: l, Kids: []api.Unit{note(1, "2")}}
	u := api.Unit{Kind: api.Section, Label: "1", Head: l, Words: l, Kids: []api.Unit{para, note(2, "2"), para}}
	before := copyOf(u)
	got, ok := footnote.Renumber(u)
	if !ok || !unit.Equal(got, renumbered(before)) || !unit.Equal(u, before) {
		t.Error(got, ok)
	}
	if textOf(got) != "^1 a" || got.Head[0].Text != "^2" {
		t.Error(got)
	}
}

func TestListsAreNew(t *testing.T) {
	u := section("^1 ^2 ^1", "1", "3")
	anchors, notes, l := footnote.Anchors(u), footnote.Notes(u), footnote.Check(u)
	for _, s := range [][]string{anchors, footnote.Anchors(u)} {
		s[0] = "spoiled"
	}
	clear(notes)
	clear(l)
	if !unit.Equal(u, section("^1 ^2 ^1", "1", "3")) {
		t.Error("shares memory with the argument")
	}
	if !slices.Equal(footnote.Anchors(u), []string{"1", "2", "1"}) || !slices.Equal(footnote.Notes(u), called(u)) || !slices.Equal(footnote.Check(u), findings(u)) {
		t.Error("results share memory")
	}
}
