package wording_test

import (
	"fmt"
	"math"
	"math/rand"
	"slices"
	"strings"
	"testing"

	"pandect/api"
	"pandect/unit"
	"pandect/wording"
	"pandect/wordseq"
)

// The act and the item of the edits.
const act, item = 7, 2

// oddTexts are strings that are words, and strings that are not.
var oddTexts = []string{"a", "", " ", "a b", "tax,", "\xff", "\x00", "z\u00fc", "\u65e5\u672c", "a\n", strings.Repeat("w", 25), strings.Repeat("x", 5000)}

// word returns a word with a mark.
func word(text string, act, item, at int) api.Word {
	return api.Word{Text: text, By: api.Mark{Act: act, Item: item, At: at}}
}

// row returns words with different marks, which are not those of the act and the item of the edits.
func row(texts ...string) []api.Word {
	var l []api.Word
	for i, s := range texts {
		l = append(l, word(s, 1+i%3, i%2, 100+i))
	}
	return l
}

// fields returns the words of a text.
func fields(s string) []string { return strings.Fields(s) }

// times returns n times the string.
func times(n int, s string) []string { return slices.Repeat([]string{s}, n) }

// The model: it follows the definitions.

// occurrencesOf returns the indices of the occurrences of part, which do not overlap.
func occurrencesOf(w []api.Word, part []string) []int {
	var out []int
	end := 0
	for i := range w {
		if i < end || len(part) == 0 || i+len(part) > len(w) {
			continue
		}
		same := true
		for k, s := range part {
			same = same && w[i+k].Text == s
		}
		if same {
			out = append(out, i)
			end = i + len(part)
		}
	}
	return out
}

// rule is an error of the chapter: whether it applies.
type rule struct {
	errno   api.Errno
	applies bool
}

// firstError returns the first error that applies.
func firstError(l []rule) api.Errno {
	for _, r := range l {
		if r.applies {
			return r.errno
		}
	}
	return api.OK
}

// edit is a call of Replace, or of InsertAfter.
type edit struct {
	insert    bool
	w         []api.Word
	part, new []string
	nth       int
}

// do calls the function.
func (e edit) do() ([]api.Word, api.Errno) {
	if e.insert {
		return wording.InsertAfter(e.w, e.part, e.new, e.nth, act, item)
	}
	return wording.Replace(e.w, e.part, e.new, e.nth, act, item)
}

// asked returns the occurrences that the edit is about.
func (e edit) asked() []int {
	all := occurrencesOf(e.w, e.part)
	if e.nth == 0 {
		return all
	}
	if e.nth < 0 || e.nth > len(all) {
		return nil
	}
	return []int{all[e.nth-1]}
}

// result returns the words of the result, whatever errors apply. It goes from word to word, and marks the new ones with a counter.
func (e edit) result() []api.Word {
	var out []api.Word
	next := 0
	write := func() {
		for _, s := range e.new {
			out = append(out, word(s, act, item, next))
			next++
		}
	}
	if e.insert && len(e.part) == 0 {
		write()
		return append(out, e.w...)
	}
	asked := e.asked()
	for i := 0; i < len(e.w); {
		if !slices.Contains(asked, i) {
			out = append(out, e.w[i])
			i++
			continue
		}
		if e.insert {
			out = append(out, e.w[i:i+len(e.part)]...)
		}
		write()
		i += len(e.part)
	}
	return out
}

// rules returns the errors of the function.
func (e edit) rules() []rule {
	missing := rule{api.ErrMissing, len(e.asked()) == 0}
	full := rule{api.ErrFull, len(e.result()) > 256}
	if e.insert {
		missing.applies = missing.applies && len(e.part) > 0
		return []rule{{api.ErrArg, len(e.new) == 0 || e.nth < 0 || len(e.part) == 0 && e.nth != 0}, missing, full}
	}
	return []rule{{api.ErrArg, len(e.part) == 0 || e.nth < 0}, missing, full}
}

// layer4 returns the texts that layer 4 computes.
func (e edit) layer4() []string {
	texts := wording.Strings(e.w...)
	var out []string
	if e.insert {
		out, _ = wordseq.InsertAfter(texts, e.part, e.new, e.nth)
	} else {
		out, _ = wordseq.Replace(texts, e.part, e.new, e.nth)
	}
	return out
}

// check compares the function with the model, and the arguments with what they were. It returns the errors that apply.
func (e edit) check(t *testing.T) []api.Errno {
	t.Helper()
	kept, keptPart, keptNew := slices.Clone(e.w), slices.Clone(e.part), slices.Clone(e.new)
	rules := e.rules()
	errno := firstError(rules)
	var want []api.Word
	if errno == api.OK {
		want = e.result()
	}
	got, err := e.do()
	if err != errno || !slices.Equal(got, want) {
		t.Fatalf("insert %v: %.200q %.99q %.99q %d: %.200v %d, want %.200v %d", e.insert, wording.Strings(e.w...), e.part, e.new, e.nth, got, err, want, errno)
	}
	if errno == api.OK && !slices.Equal(wording.Strings(got...), e.layer4()) {
		t.Fatalf("insert %v: %.200q %.99q %.99q %d: not the texts of layer 4", e.insert, wording.Strings(e.w...), e.part, e.new, e.nth)
	}
	if !slices.Equal(e.w, kept) || !slices.Equal(e.part, keptPart) || !slices.Equal(e.new, keptNew) {
		t.Fatal("arguments are modified")
	}
	var out []api.Errno
	for _, r := range rules {
		if r.applies {
			out = append(out, r.errno)
		}
	}
	return out
}

// expect expects an error, or none, and compares the function with the model.
func (e edit) expect(t *testing.T, errno api.Errno) {
	t.Helper()
	if got, err := e.do(); err != errno || err != api.OK && len(got) != 0 {
		t.Errorf("insert %v, %d words, %.99q %.99q %d: %d, want %d", e.insert, len(e.w), e.part, e.new, e.nth, err, errno)
	}
	e.check(t)
}

// sequences returns all sequences of up to n of the strings.
func sequences(n int, strings ...string) [][]string {
	out := [][]string{nil}
	for i := 0; i < len(out); i++ {
		if len(out[i]) == n {
			break
		}
		for _, s := range strings {
			out = append(out, append(slices.Clone(out[i]), s))
		}
	}
	return out
}

// P22.1: Stamp

// nodes returns pointers to all units of a tree that shares nothing within itself, in document order.
func nodes(u *api.Unit) []*api.Unit {
	l := []*api.Unit{u}
	for i := range u.Kids {
		l = append(l, nodes(&u.Kids[i])...)
	}
	return l
}

// copyOf returns a copy that shares nothing with u.
func copyOf(u api.Unit) api.Unit {
	u.Head, u.Words, u.Kids = slices.Clone(u.Head), slices.Clone(u.Words), slices.Clone(u.Kids)
	for i := range u.Kids {
		u.Kids[i] = copyOf(u.Kids[i])
	}
	return u
}

// stamped returns the stamped tree by the definition.
func stamped(u api.Unit, act, item int) api.Unit {
	u = copyOf(u)
	at := 0
	for i, x := range nodes(&u) {
		x.Id = api.Id{Act: act, Item: item, N: i + 1}
		for _, l := range [][]api.Word{x.Head, x.Words} {
			for k := range l {
				l[k].By = api.Mark{Act: act, Item: item, At: at}
				at++
			}
		}
	}
	return u
}

// trees returns trees with words in Head, in Words, in both and in none. Some are not valid.
func trees() []api.Unit {
	para := api.Unit{Id: api.Id{Act: 3, Item: 4, N: 5}, Kind: api.Para, Label: "1", Head: row("on", "fish"), Words: row("a", "tax", "on", "fish"), Kids: []api.Unit{{Kind: api.Note, Label: "1", Words: row("see", "section", "5")}}}
	out := []api.Unit{
		{},
		{Kind: api.Section, Label: "1"},
		{Kind: api.Section, Label: "1", Head: row("head")},
		{Kind: api.Section, Label: "1", Words: row("a", "b", "c")},
		{Kind: api.Section, Label: "1", Head: row("x", "y"), Words: row("a", "b", "c")},
		{Kind: api.Section, Label: "1", Head: row("x", "y"), Words: row("a"), Kids: []api.Unit{para, {Kind: api.Table, Label: "2", Kids: []api.Unit{{Kind: api.Row, Label: "1"}, {Kind: api.Row, Label: "2", Words: row("d")}}}, para}},
		{Id: api.Id{Act: 1}, Kids: []api.Unit{{Kind: api.Part, Label: "1", Kids: []api.Unit{{Kind: api.Section, Label: "1", Words: row("a")}}}, {Kind: api.Part, Label: "2", Head: row("b")}}},
		{Kind: -3, Label: "05", Head: row(oddTexts...), Words: []api.Word{}, Kids: []api.Unit{{}, {Kind: 99, Words: row(oddTexts...), Kids: []api.Unit{}}, {Kind: api.Cell, Kids: []api.Unit{{Kind: api.Book, Words: row("z")}}}}},
		{Kind: api.Section, Label: "1", Words: row(times(300, "w")...), Kids: slices.Repeat([]api.Unit{para}, 100)},
	}
	return out
}

func TestStamp(t *testing.T) {
	for i, u := range trees() {
		kept := copyOf(u)
		for _, by := range [][2]int{{7, 2}, {7, 0}, {1, 1}, {0, 0}, {-1, -5}, {math.MaxInt, math.MinInt}} {
			if got := wording.Stamp(u, by[0], by[1]); !unit.Equal(got, stamped(u, by[0], by[1])) {
				t.Error(i, by)
			}
			if !unit.Equal(u, kept) {
				t.Fatal(i, "is modified")
			}
		}
	}
}

func TestStampNamed(t *testing.T) {
	u := api.Unit{Kind: api.Section, Label: "5", Head: row("h"), Words: row("a", "b"), Kids: []api.Unit{{Kind: api.Para, Label: "1", Words: row("c"), Kids: []api.Unit{{Kind: api.Note, Label: "1", Head: row("d")}}}, {Kind: api.Para, Label: "2", Words: row("e")}}}
	got := wording.Stamp(u, 4, 9)
	id := func(n int) api.Id { return api.Id{Act: 4, Item: 9, N: n} }
	want := api.Unit{Id: id(1), Kind: api.Section, Label: "5", Head: []api.Word{word("h", 4, 9, 0)}, Words: []api.Word{word("a", 4, 9, 1), word("b", 4, 9, 2)}, Kids: []api.Unit{
		{Id: id(2), Kind: api.Para, Label: "1", Words: []api.Word{word("c", 4, 9, 3)}, Kids: []api.Unit{{Id: id(3), Kind: api.Note, Label: "1", Head: []api.Word{word("d", 4, 9, 4)}}}},
		{Id: id(4), Kind: api.Para, Label: "2", Words: []api.Word{word("e", 4, 9, 5)}},
	}}
	if !unit.Equal(got, want) {
		t.Error(got)
	}
}

// TestStampTwice stamps again for the same act and item, which changes nothing, and for others, which leaves nothing of the first ones.
func TestStampTwice(t *testing.T) {
	for i, u := range trees() {
		once := wording.Stamp(u, act, item)
		if !unit.Equal(wording.Stamp(once, act, item), once) {
			t.Error(i)
		}
		if !unit.Equal(wording.Stamp(once, act+1, item), wording.Stamp(u, act+1, item)) || !unit.Equal(wording.Stamp(once, act, 0), wording.Stamp(u, act, 0)) {
			t.Error(i)
		}
		if !unit.Equal(unit.Strip(once), unit.Strip(u)) {
			t.Error(i, "kinds, labels or texts")
		}
	}
}

// TestStampSharesNothing changes all of the argument, and looks at the result, and the other way round.
func TestStampSharesNothing(t *testing.T) {
	spoil := func(u *api.Unit) {
		for _, x := range nodes(u) {
			for _, l := range [][]api.Word{x.Head[:cap(x.Head)], x.Words[:cap(x.Words)]} {
				for i := range l {
					l[i] = word("spoilt", -9, -9, -9)
				}
			}
			x.Label, x.Id = "spoilt", api.Id{Act: -9}
		}
	}
	for i, original := range trees() {
		u := copyOf(original) // in which no two units share their words
		want := stamped(u, act, item)
		got, other := wording.Stamp(u, act, item), wording.Stamp(u, act, item)
		spoil(&got)
		if !unit.Equal(u, original) || !unit.Equal(other, want) {
			t.Error(i)
		}
		spoil(&u)
		if !unit.Equal(other, want) {
			t.Error(i)
		}
	}
}

// TestStampDeepTree goes down far more levels than a valid tree has.
func TestStampDeepTree(t *testing.T) {
	const depth = 1 << 16
	u := api.Unit{Kind: api.Para, Label: "1", Words: row("a")}
	for range depth - 1 {
		u = api.Unit{Kind: api.Para, Label: "1", Words: row("a"), Kids: []api.Unit{u}}
	}
	u = wording.Stamp(u, act, item)
	for n := 1; n <= depth; n++ {
		if u.Id != (api.Id{Act: act, Item: item, N: n}) || u.Words[0] != word("a", act, item, n-1) {
			t.Fatal(n, u.Id, u.Words)
		}
		if n < depth {
			u = u.Kids[0]
		}
	}
}

// P22.1: Mark and Strings

func TestMark(t *testing.T) {
	for _, l := range slices.Concat(sequences(3, "a", "b"), [][]string{{}, oddTexts, times(1000, "w")}) {
		for _, by := range [][3]int{{7, 2, 0}, {7, 2, 5}, {1, 0, -3}, {0, 0, 0}, {-4, -1, 1 << 40}, {math.MinInt, math.MaxInt, math.MinInt}} {
			got := wording.Mark(l, by[0], by[1], by[2])
			if len(got) != len(l) {
				t.Fatal(l, by, got)
			}
			for i, w := range got {
				if w != word(l[i], by[0], by[1], by[2]+i) {
					t.Error(l, by, i, w)
				}
			}
			if !slices.Equal(wording.Strings(got...), l) {
				t.Error(l, by)
			}
		}
	}
	wording.Mark(oddTexts, 1, 1, math.MaxInt) // beyond the last index
	if got := wording.Mark(fields("a b"), 7, 2, 3); !slices.Equal(got, []api.Word{word("a", 7, 2, 3), word("b", 7, 2, 4)}) {
		t.Error(got)
	}
}

func TestStrings(t *testing.T) {
	if len(wording.Strings()) != 0 {
		t.Error("no words")
	}
	if got := wording.Strings(row(oddTexts...)...); !slices.Equal(got, oddTexts) {
		t.Error(got)
	}
	if got := wording.Strings(word("b", 1, 1, 1), word("a", 1, 1, 0), word("b", 1, 1, 1)); !slices.Equal(got, []string{"b", "a", "b"}) {
		t.Error(got)
	}
}

func TestMarkAndStringsShareNothing(t *testing.T) {
	l := fields("a b c")
	got, other := wording.Mark(l, act, item, 0), wording.Mark(l, act, item, 0)
	got[0].Text = "x"
	l[1] = "y"
	if !slices.Equal(l, fields("a y c")) || !slices.Equal(wording.Strings(other...), fields("a b c")) {
		t.Error(l, other)
	}
	texts, again := wording.Strings(other...), wording.Strings(other...)
	texts[0] = "x"
	other[1].Text = "y"
	if !slices.Equal(again, fields("a b c")) || !slices.Equal(wording.Strings(other...), fields("a y c")) {
		t.Error(again, other)
	}
}

// P22.2: Replace and InsertAfter

func TestExamples(t *testing.T) {
	w := []api.Word{word("a", 1, 0, 0), word("b", 1, 0, 1), word("a", 3, 5, 2)}
	got, errno := wording.Replace(w, fields("b"), fields("x y"), 0, 7, 2)
	if want := []api.Word{w[0], word("x", 7, 2, 0), word("y", 7, 2, 1), w[2]}; !slices.Equal(got, want) || errno != api.OK {
		t.Error(got, errno)
	}
	w = []api.Word{word("a", 1, 0, 0), word("a", 1, 0, 1)}
	got, errno = wording.InsertAfter(w, fields("a"), fields("z"), 0, 7, 2)
	if want := []api.Word{w[0], word("z", 7, 2, 0), w[1], word("z", 7, 2, 1)}; !slices.Equal(got, want) || errno != api.OK {
		t.Error(got, errno)
	}
}

// TestNamed has rows with occurrences at the beginning, at the end, one behind another, and overlapping ones. In a result, the new words stand with the indices of their marks.
func TestNamed(t *testing.T) {
	for i, c := range []struct {
		insert         bool
		row, part, new string
		nth            int
		want           string
	}{
		{false, "a b a", "a", "x", 0, "x.0 b x.1"},
		{false, "a b a", "a", "x y", 0, "x.0 y.1 b x.2 y.3"},
		{false, "a b a", "a", "x y", 1, "x.0 y.1 b a"},
		{false, "a b a", "a", "x y", 2, "a b x.0 y.1"},
		{false, "a b a", "a", "", 0, "b"},
		{false, "a b a", "a", "", 1, "b a"},
		{false, "a a a", "a", "", 0, ""},
		{false, "a a a", "a", "a", 0, "a.0 a.1 a.2"},
		{false, "a a a", "a", "a a", 2, "a a.0 a.1 a"},
		{false, "a a a a a", "a a", "x", 0, "x.0 x.1 a"},
		{false, "a a a a a", "a a", "x", 2, "a a x.0 a"},
		{false, "a b a b a", "a b a", "x", 0, "x.0 b a"},
		{false, "a b c", "a b c", "x", 0, "x.0"},
		{false, "b a a b", "a a", "c a a d", 0, "b c.0 a.1 a.2 d.3 b"},
		{true, "a a", "a", "z", 0, "a z.0 a z.1"},
		{true, "a b a", "a", "y z", 0, "a y.0 z.1 b a y.2 z.3"},
		{true, "a b a", "a", "y z", 1, "a y.0 z.1 b a"},
		{true, "a b a", "a", "y z", 2, "a b a y.0 z.1"},
		{true, "a a a a a", "a a", "z", 0, "a a z.0 a a z.1 a"},
		{true, "a a a", "a a", "a", 0, "a a a.0 a"},
		{true, "a b", "", "y z", 0, "y.0 z.1 a b"},
		{true, "", "", "z", 0, "z.0"},
	} {
		e := edit{c.insert, row(fields(c.row)...), fields(c.part), fields(c.new), c.nth}
		got, errno := e.do()
		var l []string
		for _, w := range got {
			text := w.Text
			if w.By.Act == act && w.By.Item == item {
				text = fmt.Sprint(text, ".", w.By.At)
			}
			l = append(l, text)
		}
		if strings.Join(l, " ") != c.want || errno != api.OK {
			t.Errorf("%d: %q %d", i, l, errno)
		}
		e.check(t)
	}
}

// TestAllShortRows goes through all short rows, parts and new words of two different words.
func TestAllShortRows(t *testing.T) {
	done := 0
	for _, l := range sequences(6, "a", "b") {
		w := row(l...)
		for _, part := range sequences(3, "a", "b") {
			for _, new := range [][]string{nil, {"a"}, {"x"}, {"a", "b"}, {"b", "a", "a"}} {
				for _, nth := range []int{-1, 0, 1, 2, 3, 6, 7} {
					if len(edit{false, w, part, new, nth}.check(t)) == 0 {
						done++
					}
					if len(edit{true, w, part, new, nth}.check(t)) == 0 {
						done++
					}
				}
			}
		}
	}
	if done < 5000 {
		t.Error(done)
	}
}

func TestNth(t *testing.T) {
	w := row(fields("a b a a b a c")...) // four times a
	for nth, ok := range map[int]bool{math.MinInt: false, -2: false, -1: false, 0: true, 1: true, 2: true, 3: true, 4: true, 5: false, 6: false, math.MaxInt: false} {
		errno := api.OK
		if nth < 0 {
			errno = api.ErrArg
		} else if !ok {
			errno = api.ErrMissing
		}
		edit{false, w, fields("a"), fields("x y"), nth}.expect(t, errno)
		edit{true, w, fields("a"), fields("x y"), nth}.expect(t, errno)
		if nth != 0 {
			errno = api.ErrArg
		}
		edit{true, w, nil, fields("x y"), nth}.expect(t, errno)
	}
}

// TestOddWords has words that layer 4 does not accept, which are words like others here.
func TestOddWords(t *testing.T) {
	w := row(slices.Concat(oddTexts, oddTexts)...)
	for _, s := range oddTexts {
		for _, insert := range []bool{false, true} {
			for nth := range 3 {
				edit{insert, w, []string{s}, []string{"", "\xff", "x y"}, nth}.expect(t, api.OK)
			}
			edit{insert, w, []string{s}, []string{s}, 3}.expect(t, api.ErrMissing)
			edit{insert, row("b"), []string{s}, []string{s}, 0}.expect(t, api.ErrMissing)
		}
	}
	edit{false, row("a b"), fields("a b"), fields("x"), 0}.expect(t, api.ErrMissing) // one word with a space is not two words
	edit{false, row(fields("a b")...), []string{"a b"}, fields("x"), 0}.expect(t, api.ErrMissing)
	edit{false, row("ab"), fields("a"), fields("x"), 0}.expect(t, api.ErrMissing)
	edit{false, row("A"), fields("a"), fields("x"), 0}.expect(t, api.ErrMissing)
}

func TestNoWords(t *testing.T) {
	for _, w := range [][]api.Word{nil, {}} {
		for _, insert := range []bool{false, true} {
			edit{insert, w, fields("a"), fields("x"), 0}.expect(t, api.ErrMissing)
			edit{insert, w, fields("a"), fields("x"), 1}.expect(t, api.ErrMissing)
		}
		edit{false, w, nil, fields("x"), 0}.expect(t, api.ErrArg)
		edit{false, w, []string{}, nil, 0}.expect(t, api.ErrArg)
		edit{true, w, nil, fields("x y"), 0}.expect(t, api.OK)
		edit{true, w, []string{}, []string{}, 0}.expect(t, api.ErrArg)
	}
}

// TestLimit has results of 255, 256 and 257 words, from shorter and from longer rows.
func TestLimit(t *testing.T) {
	for size, errno := range map[int]api.Errno{255: api.OK, 256: api.OK, 257: api.ErrFull, 300: api.ErrFull} {
		for _, others := range []int{0, 1, 100, 200} {
			w := row(slices.Concat(times(others, "b"), fields("a"))...)
			edit{false, w, fields("a"), times(size-others, "x"), 0}.expect(t, errno)
			edit{true, w, fields("a"), times(size-others-1, "x"), 0}.expect(t, errno)
			edit{true, w, fields("a"), times(size-others-1, "x"), 1}.expect(t, errno)
			edit{true, w, nil, times(size-others-1, "x"), 0}.expect(t, errno)
		}
		if size%2 == 0 {
			edit{false, row(times(size/2, "a")...), fields("a"), fields("x y"), 0}.expect(t, errno)
			edit{true, row(times(size/2, "a")...), fields("a"), fields("x"), 0}.expect(t, errno)
		}
		edit{false, row(times(size, "a")...), fields("a"), fields("x"), 0}.expect(t, errno)
		edit{false, row(slices.Concat(times(size, "b"), times(100, "a"))...), fields("a"), nil, 0}.expect(t, errno) // from a row that is too long
		edit{false, row(slices.Concat(times(size-1, "b"), times(400, "a"))...), times(400, "a"), fields("x"), 1}.expect(t, errno)
	}
	edit{false, row(times(1000, "a")...), fields("a"), nil, 0}.expect(t, api.OK)
	edit{false, row(times(257, "a")...), fields("a"), nil, 257}.expect(t, api.OK)
	edit{false, row(times(258, "a")...), fields("a"), nil, 258}.expect(t, api.ErrFull)
	edit{true, row(times(256, "a")...), nil, fields("x"), 0}.expect(t, api.ErrFull)
}

// TestFirstError has, for any two errors that can apply together, arguments to which both do.
func TestFirstError(t *testing.T) {
	long := row(times(300, "a")...)
	seen := map[string]bool{}
	for _, e := range []edit{
		{false, row("a"), nil, fields("x"), 0},
		{false, row("a"), fields("b"), fields("x"), -1},
		{false, long, nil, fields("x"), 0},
		{false, long, fields("a"), fields("x"), -1},
		{false, long, fields("b"), fields("x"), 0},
		{false, long, fields("a"), fields("x"), 301},
		{true, row("a"), fields("b"), nil, 0},
		{true, row("a"), fields("a"), nil, 2},
		{true, row("a"), fields("b"), fields("x"), -1},
		{true, long, fields("a"), nil, 0},
		{true, long, fields("a"), fields("x"), -1},
		{true, long, nil, fields("x"), 1},
		{true, long, fields("b"), fields("x"), 0},
		{true, long, fields("a"), fields("x"), 301},
	} {
		applying := e.check(t)
		if len(applying) < 2 {
			t.Error(e.insert, e.part, e.new, e.nth, applying)
		}
		for i, a := range applying {
			for _, b := range applying[i+1:] {
				seen[fmt.Sprint(e.insert, a, b)] = true
			}
		}
		e.expect(t, applying[0])
	}
	if len(seen) != 6 {
		t.Error(seen)
	}
}

// TestManyWords expects an answer for results that would not fit into the memory.
func TestManyWords(t *testing.T) {
	w, new := row(times(1<<18, "a")...), times(1<<18, "x")
	for _, f := range []func() ([]api.Word, api.Errno){
		func() ([]api.Word, api.Errno) { return wording.Replace(w, fields("a"), new, 0, act, item) },
		func() ([]api.Word, api.Errno) { return wording.InsertAfter(w, fields("a"), new, 0, act, item) },
		func() ([]api.Word, api.Errno) { return wording.InsertAfter(w, nil, new, 0, act, item) },
	} {
		if got, errno := f(); len(got) != 0 || errno != api.ErrFull {
			t.Error(len(got), errno)
		}
	}
	if got, errno := wording.Replace(w, fields("a"), nil, 0, act, item); len(got) != 0 || errno != api.OK {
		t.Error(len(got), errno)
	}
}

// TestMarksStay has words that the same act and item wrote before, and words that all have one mark.
func TestMarksStay(t *testing.T) {
	w := []api.Word{word("a", act, item, 0), word("b", act, item, 1), word("a", act, item, 0), word("b", 0, 0, 0), word("a", -1, -1, -1)}
	for nth := range 4 {
		for _, insert := range []bool{false, true} {
			edit{insert, w, fields("a"), fields("a x"), nth}.expect(t, api.OK)
			edit{insert, w, fields("b"), fields("b"), nth % 3}.expect(t, api.OK)
		}
	}
	got, _ := wording.Replace(w, fields("b"), fields("c"), 0, act, item)
	if want := []api.Word{w[0], word("c", act, item, 0), w[2], word("c", act, item, 1), w[4]}; !slices.Equal(got, want) {
		t.Error(got)
	}
}

// TestActsAndItems gives the edits any acts and items.
func TestActsAndItems(t *testing.T) {
	w := row(fields("a b a")...)
	for _, n := range []int{math.MinInt, -1, 0, 1, 32, math.MaxInt} {
		for _, k := range []int{math.MinInt, -1, 0, 1, 32, math.MaxInt} {
			got, errno := wording.Replace(w, fields("a"), fields("x"), 0, n, k)
			if want := []api.Word{word("x", n, k, 0), w[1], word("x", n, k, 1)}; !slices.Equal(got, want) || errno != api.OK {
				t.Error(n, k, got, errno)
			}
			got, errno = wording.InsertAfter(w, fields("b"), fields("x y"), 1, n, k)
			if want := []api.Word{w[0], w[1], word("x", n, k, 0), word("y", n, k, 1), w[2]}; !slices.Equal(got, want) || errno != api.OK {
				t.Error(n, k, got, errno)
			}
		}
	}
}

// TestEditsShareNothing changes arguments and results. The row is the beginning of a longer one, whose further words must stay too.
func TestEditsShareNothing(t *testing.T) {
	all := row(fields("a b a c d e f g h i j")...)
	kept := slices.Clone(all)
	for _, insert := range []bool{false, true} {
		for n := range len(all) {
			for _, part := range [][]string{fields("a"), fields("b a"), nil} {
				for _, new := range [][]string{nil, fields("x"), fields("x y z")} {
					e := edit{insert, all[:n], part, new, 0}
					e.check(t)
					if got, errno := e.do(); errno == api.OK {
						want := slices.Clone(got)
						other, _ := e.do()
						got = got[:cap(got)]
						for i := range got {
							got[i] = word("spoilt", -9, -9, -9)
						}
						if !slices.Equal(other, want) {
							t.Fatal(n, part, new)
						}
					}
					if !slices.Equal(all, kept) {
						t.Fatal(n, part, new, all)
					}
				}
			}
		}
	}
	w, part, new := slices.Clone(all), fields("a"), fields("x y")
	got, _ := wording.Replace(w, part, new, 0, act, item)
	more, _ := wording.InsertAfter(w, part, new, 0, act, item)
	want, wantMore := slices.Clone(got), slices.Clone(more)
	for i := range w {
		w[i] = word("spoilt", -9, -9, -9)
	}
	part[0], new[0], new[1] = "spoilt", "spoilt", "spoilt"
	if !slices.Equal(got, want) || !slices.Equal(more, wantMore) {
		t.Error(got, more)
	}
}

// P22.3: Authors

func TestAuthors(t *testing.T) {
	by := func(l ...int) []api.Word {
		var out []api.Word
		for i := 0; i < len(l); i += 2 {
			out = append(out, word(fmt.Sprint("w", i), l[i], l[i+1], i%3))
		}
		return out
	}
	for i, c := range []struct {
		w    []api.Word
		want []api.ItemRef
	}{
		{nil, nil},
		{[]api.Word{}, nil},
		{by(0, 0), []api.ItemRef{{}}},
		{by(7, 2), []api.ItemRef{{Act: 7, Item: 2}}},
		{by(7, 2, 7, 2, 7, 2, 7, 2), []api.ItemRef{{Act: 7, Item: 2}}},
		{by(7, 2, 7, 1), []api.ItemRef{{Act: 7, Item: 1}, {Act: 7, Item: 2}}},
		{by(7, 2, 8, 1), []api.ItemRef{{Act: 7, Item: 2}, {Act: 8, Item: 1}}},
		{by(8, 1, 7, 2), []api.ItemRef{{Act: 7, Item: 2}, {Act: 8, Item: 1}}},
		{by(10, 0, 9, 0, 10, 0, 1, 9, 1, 10, 9, 0), []api.ItemRef{{Act: 1, Item: 9}, {Act: 1, Item: 10}, {Act: 9, Item: 0}, {Act: 10, Item: 0}}},
		{by(0, 0, -1, 5, 0, -1, -1, -5, 0, 0, 1, -9), []api.ItemRef{{Act: -1, Item: -5}, {Act: -1, Item: 5}, {Act: 0, Item: -1}, {}, {Act: 1, Item: -9}}},
		{by(math.MaxInt, 0, math.MinInt, 0, 0, math.MaxInt, 0, math.MinInt), []api.ItemRef{{Act: math.MinInt}, {Item: math.MinInt}, {Item: math.MaxInt}, {Act: math.MaxInt}}},
	} {
		kept := slices.Clone(c.w)
		got, other := wording.Authors(c.w...), wording.Authors(c.w...)
		if !slices.Equal(got, c.want) || !slices.Equal(c.w, kept) {
			t.Error(i, got)
		}
		for k := range got {
			got[k] = api.ItemRef{Act: -9}
		}
		if !slices.Equal(other, c.want) || !slices.Equal(c.w, kept) {
			t.Error(i, other)
		}
	}
}

// P22.4: the consequences

// TestRandomEdits edits a row again and again, each time for another act or item: no two marks become equal, and the authors are those of the words that are left.
func TestRandomEdits(t *testing.T) {
	r := rand.New(rand.NewSource(22))
	letters := fields("a b c")
	pick := func(n int) []string {
		var l []string
		for range n {
			l = append(l, letters[r.Intn(len(letters))])
		}
		return l
	}
	edits := 0
	for range 2000 {
		w := wording.Mark(pick(r.Intn(20)), 1, 0, 0)
		for n := range 20 {
			by := api.ItemRef{Act: 2 + n/4, Item: n % 4}
			e := edit{r.Intn(2) == 0, w, pick(r.Intn(3)), pick(r.Intn(4)), r.Intn(4)}
			e.check(t)
			var got []api.Word
			var errno api.Errno
			if e.insert {
				got, errno = wording.InsertAfter(w, e.part, e.new, e.nth, by.Act, by.Item)
			} else {
				got, errno = wording.Replace(w, e.part, e.new, e.nth, by.Act, by.Item)
			}
			if errno != api.OK {
				continue
			}
			edits++
			marks := map[api.Mark]bool{}
			authors := map[api.ItemRef]bool{}
			for _, x := range got {
				if marks[x.By] {
					t.Fatal(w, e, got)
				}
				marks[x.By] = true
				authors[api.ItemRef{Act: x.By.Act, Item: x.By.Item}] = true
				if x.By.Act != by.Act || x.By.Item != by.Item {
					if !slices.Contains(w, x) {
						t.Fatal(w, e, got)
					}
				}
			}
			if !slices.Equal(wording.Strings(got...), e.layer4()) {
				t.Fatal(w, e, got)
			}
			l := wording.Authors(got...)
			if len(l) != len(authors) || slices.ContainsFunc(l, func(x api.ItemRef) bool { return !authors[x] }) {
				t.Fatal(got, l)
			}
			w = got
		}
	}
	if edits < 5000 {
		t.Error(edits)
	}
}
