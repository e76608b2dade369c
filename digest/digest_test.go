package digest_test

import (
	"fmt"
	"math"
	"math/big"
	"math/rand"
	"slices"
	"strings"
	"testing"

	"pandect/api"
	"pandect/digest"
	"pandect/unit"
)

// words returns words with the texts, and with marks of the act.
func words(act int, texts ...string) []api.Word {
	var l []api.Word
	for i, s := range texts {
		l = append(l, api.Word{Text: s, By: api.Mark{Act: act, Item: 2, At: i}})
	}
	return l
}

// number returns the ID that ends in n.
func number(n int) api.Id { return api.Id{Act: 3, Item: 1, N: n} }

// unitOf returns a unit whose ID ends in n, and which is otherwise equal to others with the same text and children.
func unitOf(n int, text string, kids ...api.Unit) api.Unit {
	return api.Unit{Id: number(n), Kind: api.Para, Label: "1", Words: words(4, text), Kids: kids}
}

// sample returns a tree with several levels, IDs and marks.
func sample() api.Unit {
	para := api.Unit{Id: number(3), Kind: api.Para, Label: "1", Words: words(3, "b", "c"), Kids: []api.Unit{{Id: number(4), Kind: api.Note, Label: "2", Words: words(5, "note")}}}
	section := api.Unit{Id: number(2), Kind: api.Section, Label: "5", Head: words(3, "of", "taxes"), Words: words(4, "a"), Kids: []api.Unit{para, {Id: number(5), Kind: api.Table, Label: "1"}}}
	return api.Unit{Kids: []api.Unit{{Id: number(1), Kind: api.Part, Label: "1", Kids: []api.Unit{section}}, {Id: number(6), Kind: api.Section, Label: "5A"}}}
}

// copyOf returns a copy that shares nothing with u.
func copyOf(u api.Unit) api.Unit {
	u.Head, u.Words, u.Kids = slices.Clone(u.Head), slices.Clone(u.Words), slices.Clone(u.Kids)
	for i := range u.Kids {
		u.Kids[i] = copyOf(u.Kids[i])
	}
	return u
}

// nodes returns pointers to all units of a tree that shares nothing within itself, in document order.
func nodes(u *api.Unit) []*api.Unit {
	l := []*api.Unit{u}
	for i := range u.Kids {
		l = append(l, nodes(&u.Kids[i])...)
	}
	return l
}

// The model: it follows the definitions.

// sum returns the hash of s, computed with integers of any size.
func sum(s string) string {
	number := func(s string) *big.Int {
		n, _ := new(big.Int).SetString(s, 10)
		return n
	}
	state, factor := number("11400714819323198485"), number("10723151780598845931")
	mask := new(big.Int).Sub(new(big.Int).Lsh(big.NewInt(1), 64), big.NewInt(1))
	for i := range len(s) {
		state.Add(state, big.NewInt(int64(s[i])+1)).And(state, mask)
		state.Mul(state, factor).And(state, mask)
		state.Xor(state, new(big.Int).Rsh(state, 31))
	}
	return fmt.Sprintf("%016x", state)
}

// textEncoding returns the encoding of a string.
func textEncoding(s string) string { return fmt.Sprintf("%d:%s", len(s), s) }

// wordsEncoding returns the encoding of a list of words.
func wordsEncoding(l []api.Word, marks bool) string {
	out := fmt.Sprint(len(l))
	for _, w := range l {
		out += " " + textEncoding(w.Text)
		if marks {
			out += fmt.Sprintf("@%d.%d.%d", w.By.Act, w.By.Item, w.By.At)
		}
	}
	return out
}

// encoding returns the encoding of a unit without its kids.
func encoding(u api.Unit, marks bool) string {
	out := fmt.Sprintf("%d %s\n%s\n%s\n", u.Kind, textEncoding(u.Label), wordsEncoding(u.Head, marks), wordsEncoding(u.Words, marks))
	if marks {
		out = fmt.Sprintf("%d.%d.%d %s", u.Id.Act, u.Id.Item, u.Id.N, out)
	}
	return out
}

// treeSum returns the hash of a tree.
func treeSum(u api.Unit, marks bool) string {
	out := encoding(u, marks)
	for _, kid := range u.Kids {
		out += treeSum(kid, marks)
	}
	return sum(out)
}

// differing returns what Diff returns.
func differing(a, b api.Unit) []api.Id {
	sums := func(u api.Unit, id api.Id) string {
		if found, ok := unit.Find(u, id); ok {
			return treeSum(found, true)
		}
		return ""
	}
	var out []api.Id
	for _, id := range append(unit.IDs(a), unit.IDs(b)...) {
		if sums(a, id) != sums(b, id) && !slices.Contains(out, id) {
			out = append(out, id)
		}
	}
	slices.SortFunc(out, func(x, y api.Id) int {
		return slices.Compare([]int{x.Act, x.Item, x.N}, []int{y.Act, y.Item, y.N})
	})
	return out
}

// check compares the hashes of the tree with the model.
func check(t *testing.T, u api.Unit) {
	t.Helper()
	if got, want := digest.Content(u), treeSum(u, false); got != want {
		t.Fatalf("Content(%v): %q, want %q", u, got, want)
	}
	if got, want := digest.Full(u), treeSum(u, true); got != want {
		t.Fatalf("Full(%v): %q, want %q", u, got, want)
	}
	if got, want := digest.Self(u), sum(encoding(u, true)); got != want {
		t.Fatalf("Self(%v): %q, want %q", u, got, want)
	}
}

// expectSums expects that the encoding of the unit without its kids is plain, or marked with marks.
func expectSums(t *testing.T, u api.Unit, plain, marked string) {
	t.Helper()
	contents, fulls := "", ""
	for _, kid := range u.Kids {
		contents += digest.Content(kid)
		fulls += digest.Full(kid)
	}
	if got, want := digest.Content(u), digest.Sum(plain+contents); got != want {
		t.Errorf("Content: %q, want that of %q", got, plain)
	}
	if got, want := digest.Full(u), digest.Sum(marked+fulls); got != want {
		t.Errorf("Full: %q, want that of %q", got, marked)
	}
	if got, want := digest.Self(u), digest.Sum(marked); got != want {
		t.Errorf("Self: %q, want that of %q", got, marked)
	}
	check(t, u)
}

// expectDiff expects that the trees differ in the IDs, both ways, and compares all of it with the model.
func expectDiff(t *testing.T, a, b api.Unit, want ...api.Id) {
	t.Helper()
	if got := digest.Diff(a, b); !slices.Equal(got, want) {
		t.Errorf("Diff: %v, want %v", got, want)
	}
	if got := digest.Diff(b, a); !slices.Equal(got, want) {
		t.Errorf("Diff the other way: %v, want %v", got, want)
	}
	if model := differing(a, b); !slices.Equal(model, want) {
		t.Errorf("model: %v, want %v", model, want)
	}
	for _, u := range []api.Unit{a, b} {
		if got := digest.Diff(u, u); len(got) != 0 {
			t.Errorf("Diff of a tree and itself: %v", got)
		}
	}
}

// P12.1: Sum

// TestSum has hashes that were computed by another program.
func TestSum(t *testing.T) {
	every := make([]byte, 256)
	for i := range every {
		every[i] = byte(i)
	}
	for _, c := range []struct{ s, want string }{
		{"", "9e3779b97f4a7c15"}, {"\x00", "bfa0dd445292e4b8"}, {"\xff", "fb1a4e9cbd80aa7d"}, {"a", "228ccd273672b273"}, {"ab", "bf138529c8076a23"}, {"ba", "a9c5b16f753fed59"}, {"\x00\x00", "0267306e14bf5e0f"},
		{"pandect", "30a137e0206b4b66"}, {"é", "202450ecf0088c15"}, {string(every), "2f50b253dbeef195"}, {strings.Repeat("a", 100000), "ecbd926d5106aba6"},
		{"3973", "000a490dd37ba050"}, {"14382", "0000a4ad5234f9be"}, // with leading zeros
	} {
		if got := digest.Sum(c.s); got != c.want || sum(c.s) != c.want {
			t.Errorf("%.20q: %q, want %q", c.s, got, c.want)
		}
	}
}

func TestSumBytes(t *testing.T) {
	seen := map[string]string{}
	expect := func(s string) {
		got := digest.Sum(s)
		if got != sum(s) || len(got) != 16 || strings.Trim(got, "0123456789abcdef") != "" {
			t.Fatalf("%q: %q, want %q", s, got, sum(s))
		}
		if other, ok := seen[got]; ok && other != s {
			t.Fatalf("%q and %q: %q", s, other, got)
		}
		seen[got] = s
	}
	for a := range 256 {
		expect(string([]byte{byte(a)}))
		for _, b := range []byte{0, 1, 'a', 127, 128, 255} {
			expect(string([]byte{byte(a), b}))
			expect(string([]byte{b, byte(a), b}))
		}
	}
	for n := range 200 {
		expect(strings.Repeat("\x00", n))
		expect(strings.Repeat("\xff", n))
		expect(strings.Repeat("日本", n))
	}
	for i := range 2000 {
		expect(fmt.Sprint(i)) // some of the hashes begin with zeros
	}
}

func TestSumLong(t *testing.T) {
	r := rand.New(rand.NewSource(1))
	for _, n := range []int{1000, 1 << 14, 1 << 18} {
		b := make([]byte, n)
		r.Read(b)
		if got, want := digest.Sum(string(b)), sum(string(b)); got != want {
			t.Error(n, got, want)
		}
	}
}

// P12.1: Content, Full and Self

func TestExample(t *testing.T) {
	expectSums(t, api.Unit{}, "0 0:\n0\n0\n", "0.0.0 0 0:\n0\n0\n")
	if got := digest.Content(api.Unit{}); got != "2f0641390cf4dd00" {
		t.Error(got)
	}
	if got := digest.Full(api.Unit{}); got != "a7538a76e38473d8" || got != digest.Self(api.Unit{}) {
		t.Error(got)
	}
	if got := digest.Diff(sample(), sample()); len(got) != 0 {
		t.Error(got)
	}
}

func TestEncoding(t *testing.T) {
	head, body := []api.Word{{Text: "a"}}, []api.Word{{Text: "bc", By: api.Mark{Act: 1, Item: 2, At: 3}}, {}, {Text: "d", By: api.Mark{Act: 10}}}
	for _, c := range []struct {
		u             api.Unit
		plain, marked string
	}{
		{api.Unit{Kind: api.Section, Label: "5"}, "2 1:5\n0\n0\n", "0.0.0 2 1:5\n0\n0\n"},
		{api.Unit{Id: api.Id{Act: 7, Item: 8, N: 9}, Kind: api.Note, Label: "12AB", Head: head}, "7 4:12AB\n1 1:a\n0\n", "7.8.9 7 4:12AB\n1 1:a@0.0.0\n0\n"},
		{api.Unit{Id: api.Id{Act: 7}, Kind: api.Part, Label: "1", Words: body}, "1 1:1\n0\n3 2:bc 0: 1:d\n", "7.0.0 1 1:1\n0\n3 2:bc@1.2.3 0:@0.0.0 1:d@10.0.0\n"},
		{api.Unit{Id: api.Id{N: 7}, Label: "x", Head: body, Words: head}, "0 1:x\n3 2:bc 0: 1:d\n1 1:a\n", "0.0.7 0 1:x\n3 2:bc@1.2.3 0:@0.0.0 1:d@10.0.0\n1 1:a@0.0.0\n"},
		// Negative and great numbers.
		{api.Unit{Id: api.Id{Act: -1, Item: -20, N: -3}, Kind: -4}, "-4 0:\n0\n0\n", "-1.-20.-3 -4 0:\n0\n0\n"},
		{api.Unit{Id: api.Id{Act: math.MinInt, Item: math.MaxInt}, Kind: math.MaxInt}, "9223372036854775807 0:\n0\n0\n", "-9223372036854775808.9223372036854775807.0 9223372036854775807 0:\n0\n0\n"},
		{api.Unit{Kind: math.MinInt, Words: []api.Word{{Text: "a", By: api.Mark{Act: -5, Item: -6, At: -7}}}}, "-9223372036854775808 0:\n0\n1 1:a\n", "0.0.0 -9223372036854775808 0:\n0\n1 1:a@-5.-6.-7\n"},
		// Texts that contain what separates the parts of an encoding.
		{api.Unit{Label: "1:a\n0"}, "0 5:1:a\n0\n0\n0\n", "0.0.0 0 5:1:a\n0\n0\n0\n"},
		{api.Unit{Label: "\n", Words: []api.Word{{Text: " 1:a@0.0.0"}}}, "0 1:\n\n0\n1 10: 1:a@0.0.0\n", "0.0.0 0 1:\n\n0\n1 10: 1:a@0.0.0@0.0.0\n"},
		{api.Unit{Label: "é\xff", Words: []api.Word{{Text: "é\x00"}}}, "0 3:é\xff\n0\n1 3:é\x00\n", "0.0.0 0 3:é\xff\n0\n1 3:é\x00@0.0.0\n"},
		{api.Unit{Label: strings.Repeat("1", 100), Head: make([]api.Word, 12)}, "0 100:" + strings.Repeat("1", 100) + "\n12" + strings.Repeat(" 0:", 12) + "\n0\n", "0.0.0 0 100:" + strings.Repeat("1", 100) + "\n12" + strings.Repeat(" 0:@0.0.0", 12) + "\n0\n"},
	} {
		expectSums(t, c.u, c.plain, c.marked)
		c.u.Kids = []api.Unit{sample()}
		expectSums(t, c.u, c.plain, c.marked)
		c.u.Kids = append(c.u.Kids, api.Unit{Id: number(1)}, sample().Kids[0])
		expectSums(t, c.u, c.plain, c.marked)
	}
}

// TestEncodingsDiffer has units whose encodings would be the same without a length, a number or a separator.
func TestEncodingsDiffer(t *testing.T) {
	text := func(l ...string) []api.Word {
		var out []api.Word
		for _, s := range l {
			out = append(out, api.Word{Text: s})
		}
		return out
	}
	a, b := api.Unit{Label: "a"}, api.Unit{Label: "b"}
	l := []api.Unit{
		{}, a, b, {Kind: 1}, {Kind: 1, Label: "a"}, {Kind: 11}, {Label: "1"}, {Label: "1:a"}, {Label: "a "}, {Label: " a"}, {Label: "a\n0\n0\n"},
		{Head: text("a")}, {Words: text("a")}, {Head: text("a"), Words: text("a")}, {Head: text("a", "b")}, {Words: text("a", "b")}, {Head: text("a"), Words: text("b")}, {Head: text("b"), Words: text("a")}, {Head: text("b", "a")},
		{Words: text("ab")}, {Words: text("a b")}, {Words: text("a 1:b")}, {Words: text("a", "")}, {Words: text("", "a")}, {Words: text("")}, {Words: text("", "")}, {Words: text("a1:b")}, {Words: text("a@0.0.0")}, {Words: text("a\n")}, {Head: text("")},
		{Kids: []api.Unit{a}}, {Kids: []api.Unit{a, b}}, {Kids: []api.Unit{b, a}}, {Kids: []api.Unit{{Label: "a", Kids: []api.Unit{b}}}}, {Kids: []api.Unit{a, a}}, {Kids: []api.Unit{{}}}, {Kids: []api.Unit{{Kids: []api.Unit{a, b}}}}, {Kids: []api.Unit{{}, {}}}, {Kids: []api.Unit{{Kids: []api.Unit{{}}}}},
	}
	for i, x := range l {
		check(t, x)
		for k, y := range l {
			if i != k && (digest.Content(x) == digest.Content(y) || digest.Full(x) == digest.Full(y)) {
				t.Error(x, y)
			}
			if i != k && len(x.Kids)+len(y.Kids) == 0 && digest.Self(x) == digest.Self(y) {
				t.Error(x, y, "Self")
			}
		}
	}
}

func TestIDsAndMarks(t *testing.T) {
	var ids []api.Unit
	for _, id := range []api.Id{{}, {Act: 1}, {Item: 1}, {N: 1}, {Act: 1, Item: 1}, {Act: 11}, {Item: 11}, {Act: 1, Item: 1, N: 1}, {Act: -1}, {N: -1}, {Act: 1, N: 1}, {Act: 2, Item: 1}} {
		mark := api.Mark{Act: id.Act, Item: id.Item, At: id.N}
		ids = append(ids, api.Unit{Id: id, Head: make([]api.Word, 1), Words: make([]api.Word, 1)})
		if (id != api.Id{}) {
			ids = append(ids, api.Unit{Head: []api.Word{{By: mark}}, Words: make([]api.Word, 1)}, api.Unit{Head: make([]api.Word, 1), Words: []api.Word{{By: mark}}})
		}
	}
	for i, x := range ids {
		check(t, x)
		for k, y := range ids {
			if digest.Content(x) != digest.Content(y) {
				t.Error(x, y, "Content")
			}
			if i != k && (digest.Full(x) == digest.Full(y) || digest.Self(x) == digest.Self(y)) {
				t.Error(x, y)
			}
		}
	}
}

// P12.2

// TestContentDependsOnTexts changes all IDs and marks of a tree, and then one other thing.
func TestContentDependsOnTexts(t *testing.T) {
	u := sample()
	content, full := digest.Content(u), digest.Full(u)
	if got := digest.Content(unit.Strip(u)); got != content {
		t.Error(got)
	}
	for i := range nodes(&u) {
		x := copyOf(u)
		changed := nodes(&x)[i]
		changed.Id = api.Id{Act: -9, Item: i, N: 1000}
		for _, l := range [][]api.Word{changed.Head, changed.Words} {
			for k := range l {
				l[k].By = api.Mark{Act: 77, Item: k, At: -1}
			}
		}
		if digest.Content(x) != content || digest.Full(x) == full {
			t.Error(i, "ID and marks")
		}
		for k, change := range []func(u *api.Unit){func(u *api.Unit) { u.Kind++ }, func(u *api.Unit) { u.Label += "1" }, func(u *api.Unit) { u.Head = append(u.Head, api.Word{}) }, func(u *api.Unit) { u.Words = append(u.Words, api.Word{}) }, func(u *api.Unit) { u.Kids = append(u.Kids, api.Unit{}) }} {
			x = copyOf(u)
			change(nodes(&x)[i])
			if digest.Content(x) == content || digest.Full(x) == full {
				t.Error(i, k)
			}
		}
	}
}

func TestSelfIgnoresKids(t *testing.T) {
	u := sample()
	for i := range nodes(&u) {
		x := copyOf(u)
		changed := nodes(&x)[i]
		self := digest.Self(*changed)
		for _, kids := range [][]api.Unit{nil, {}, {{}}, {sample(), sample()}, make([]api.Unit, 1000), {{Id: changed.Id}}} {
			changed.Kids = kids
			if digest.Self(*changed) != self {
				t.Error(i, len(kids))
			}
			if (digest.Full(*changed) == self) != (len(kids) == 0) {
				t.Error(i, len(kids), "Full")
			}
		}
	}
}

// P12.1 and P12.3: Diff

// TestDiffOneUnit changes one unit: the root, one in the middle, and a leaf.
func TestDiffOneUnit(t *testing.T) {
	zero, u := api.Id{}, sample()
	for i, want := range [][]api.Id{{zero}, {zero, number(1)}, {zero, number(1), number(2)}, {zero, number(1), number(2), number(3)}, {zero, number(1), number(2), number(3), number(4)}, {zero, number(1), number(2), number(5)}, {zero, number(6)}} {
		for _, change := range []func(u *api.Unit){
			func(u *api.Unit) { u.Kind++ }, func(u *api.Unit) { u.Label += "1" }, func(u *api.Unit) { u.Head = append(u.Head, api.Word{}) }, func(u *api.Unit) { u.Words = append(u.Words, api.Word{Text: "a"}) },
			func(u *api.Unit) { u.Words = append(words(8, "b"), u.Words...) }, func(u *api.Unit) { u.Head, u.Words = append(u.Words, api.Word{}), u.Head },
		} {
			x := copyOf(u)
			change(nodes(&x)[i])
			expectDiff(t, u, x, want...)
		}
	}
}

func TestDiffMark(t *testing.T) {
	u := sample()
	for _, by := range []api.Mark{{}, {Act: 3, Item: 2}, {Act: 4, Item: 2, At: 1}, {Act: 3, Item: 3, At: 1}} {
		x := copyOf(u)
		nodes(&x)[3].Words[1].By = by
		expectDiff(t, u, x, api.Id{}, number(1), number(2), number(3))
		nodes(&x)[3].Words[1].By = api.Mark{Act: 3, Item: 2, At: 1}
		expectDiff(t, u, x)
	}
}

// TestDiffOnlyOne has IDs that occur in one tree only.
func TestDiffOnlyOne(t *testing.T) {
	a, b := unitOf(1, "a"), unitOf(2, "b")
	expectDiff(t, a, b, number(1), number(2))
	expectDiff(t, a, unitOf(2, "a"), number(1), number(2))
	expectDiff(t, unitOf(1, "a", b), a, number(1), number(2))
	expectDiff(t, unitOf(5, "a", a, b), unitOf(5, "a", b), number(1), number(5))
	expectDiff(t, unitOf(5, "a", a, b), unitOf(5, "a", b, a), number(5)) // the order of the kids
	expectDiff(t, unitOf(5, "a", a), unitOf(6, "a", a), number(5), number(6))
	expectDiff(t, unitOf(5, "a", unitOf(6, "a", a), b), unitOf(5, "a", unitOf(6, "a"), b, a), number(5), number(6)) // a is elsewhere, but equal
	expectDiff(t, unitOf(5, "a", unitOf(6, "a", a), b), b, number(1), number(5), number(6))
}

// TestDiffTwice has IDs that occur more than once in a tree: the first unit in preorder counts.
func TestDiffTwice(t *testing.T) {
	a, other := unitOf(1, "a"), unitOf(1, "other")
	expectDiff(t, unitOf(5, "x", a, other), unitOf(5, "x", a), number(5))
	expectDiff(t, unitOf(5, "x", other, a), unitOf(5, "x", a), number(1), number(5))
	expectDiff(t, unitOf(5, "x", a, a), unitOf(5, "x", a), number(5))
	expectDiff(t, unitOf(5, "x", a, other), unitOf(5, "x", a, a), number(5))
	expectDiff(t, unitOf(5, "x", a, other), unitOf(5, "x", other, a), number(1), number(5))
	// One in the other: the outer one comes first.
	expectDiff(t, unitOf(1, "x", a), a, number(1))
	expectDiff(t, unitOf(1, "x", a), unitOf(1, "x", a))
	expectDiff(t, unitOf(1, "a", other), unitOf(1, "a", a), number(1))
	expectDiff(t, unitOf(5, "x", unitOf(1, "x", a), a), unitOf(5, "x", unitOf(1, "x", a)), number(5))
	expectDiff(t, unitOf(5, "x", unitOf(6, "x", other), a), unitOf(5, "x", a), number(1), number(5), number(6))
	expectDiff(t, unitOf(5, "x", unitOf(6, "x", unitOf(1, "a")), other), unitOf(5, "x", a), number(5), number(6)) // the deeper one comes first
	// The zero ID is one of them.
	zero := api.Unit{Kids: []api.Unit{{Label: "1"}, {Label: "2"}}}
	expectDiff(t, zero, api.Unit{}, api.Id{})
	expectDiff(t, zero, zero.Kids[0], api.Id{})
	expectDiff(t, zero.Kids[0], api.Unit{Label: "1"})
	expectDiff(t, zero.Kids[0], zero.Kids[1], api.Id{})
	expectDiff(t, unitOf(5, "x", zero), unitOf(5, "x", zero, api.Unit{Label: "9"}), number(5))
	expectDiff(t, unitOf(5, "x", zero), unitOf(5, "x", zero.Kids...), api.Id{}, number(5))
	expectDiff(t, unitOf(5, "x", zero), unitOf(5, "x"), api.Id{}, number(5))
	expectDiff(t, api.Unit{}, unitOf(5, "x"), api.Id{}, number(5))
}

// TestDiffOrder has IDs that are not in order in the trees.
func TestDiffOrder(t *testing.T) {
	want := []api.Id{{Act: math.MinInt, Item: 5, N: 5}, {Act: -2, Item: 7}, {Act: -1, Item: -1}, {Act: -1, N: -3}, {Act: -1, N: 3}, {}, {N: 1}, {Item: 1, N: -1}, {Act: 1}, {Act: 1, N: 9}, {Act: 1, N: 10}, {Act: 1, Item: 2, N: 3}, {Act: 1, Item: 10}, {Act: 2, Item: 1, N: 1}, {Act: 10, Item: -4, N: 1}, {Act: math.MaxInt, Item: math.MinInt, N: math.MaxInt}, {Act: math.MaxInt, Item: math.MaxInt, N: math.MinInt}}
	r := rand.New(rand.NewSource(2))
	for range 200 {
		ids := slices.Clone(want)
		r.Shuffle(len(ids), func(i, k int) { ids[i], ids[k] = ids[k], ids[i] })
		a, b := api.Unit{Id: ids[0], Label: "a"}, api.Unit{Id: ids[0], Label: "b"}
		for _, id := range ids[1:] {
			x, y := api.Unit{Id: id, Label: "a"}, api.Unit{Id: id, Label: "b"}
			switch r.Intn(4) {
			case 0:
				a.Kids = append(a.Kids, x)
			case 1:
				b.Kids = append(b.Kids, y)
			default:
				a.Kids, b.Kids = append(a.Kids, x), append([]api.Unit{y}, b.Kids...)
			}
		}
		expectDiff(t, a, b, want...)
	}
}

// randomTree returns a tree with IDs that may occur more than once, of at most the depth.
func randomTree(r *rand.Rand, depth int) api.Unit {
	u := api.Unit{Id: api.Id{Act: r.Intn(3) - 1, Item: r.Intn(2), N: r.Intn(3)}, Kind: r.Intn(3) - 1, Label: []string{"", "1", "1:"}[r.Intn(3)], Head: randomWords(r), Words: randomWords(r)}
	if depth > 0 {
		for range r.Intn(4) {
			u.Kids = append(u.Kids, randomTree(r, depth-1))
		}
	}
	return u
}

// randomWords returns some words.
func randomWords(r *rand.Rand) []api.Word {
	var l []api.Word
	for range r.Intn(5) / 2 {
		l = append(l, api.Word{Text: []string{"", "a", "a b", "1:a", "@", "\n", "\xff"}[r.Intn(7)], By: api.Mark{Act: r.Intn(3) - 1, Item: r.Intn(2), At: r.Intn(2)}})
	}
	return l
}

func TestRandom(t *testing.T) {
	r := rand.New(rand.NewSource(3))
	for range 300 {
		a, b := randomTree(r, 3), randomTree(r, 3)
		check(t, a)
		expectDiff(t, a, b, differing(a, b)...)
		c := copyOf(a)
		for range 1 + r.Intn(3) {
			l := nodes(&c)
			x := l[r.Intn(len(l))]
			switch r.Intn(5) {
			case 0:
				x.Label += "x"
			case 1:
				x.Words = randomWords(r)
			case 2:
				x.Id.N = r.Intn(4)
			case 3:
				x.Kids = append(x.Kids, randomTree(r, 1))
			case 4:
				x.Kids = nil
			}
		}
		expectDiff(t, a, c, differing(a, c)...)
	}
}

// TestDiffLineage changes one unit of a tree with different IDs.
func TestDiffLineage(t *testing.T) {
	r := rand.New(rand.NewSource(4))
	for range 300 {
		u := randomTree(r, 4)
		for i, x := range nodes(&u) {
			x.Id = api.Id{Act: r.Intn(3), N: i}
		}
		changed := copyOf(u)
		l := nodes(&changed)
		x := l[r.Intn(len(l))]
		x.Label += "x"
		want := append(unit.Ancestors(u, x.Id), x.Id)
		got := digest.Diff(u, changed)
		for _, id := range got {
			if !slices.Contains(want, id) {
				t.Fatal(id, want)
			}
		}
		if len(got) != len(want) { // the hashes of these trees differ
			t.Fatal(got, want)
		}
	}
}

// P1

// TestHugeArguments gives trees with many levels, each with many units, and wide ones to every function.
func TestHugeArguments(t *testing.T) {
	deep := api.Unit{Id: api.Id{Act: 1000}, Label: "end"}
	for i := range 1000 {
		kids := []api.Unit{deep}
		for k := range 100 {
			kids = append(kids, api.Unit{Id: api.Id{Act: i, N: k + 1}})
		}
		deep = api.Unit{Id: api.Id{Act: i}, Kids: kids}
	}
	other := copyOf(deep)
	nodes(&other)[1000].Label = "other end"
	if got := digest.Diff(deep, other); len(got) != 1001 || got[1000] != (api.Id{Act: 1000}) {
		t.Error(len(got))
	}
	if digest.Full(deep) == digest.Full(other) || digest.Content(deep) == digest.Content(other) || digest.Self(deep) != digest.Self(other) {
		t.Error("deep")
	}
	wide := api.Unit{Label: strings.Repeat("1", 1<<20), Words: slices.Repeat(words(1, "a", "b"), 1<<17), Kids: slices.Repeat([]api.Unit{{Label: "1"}}, 1<<18)}
	if digest.Full(wide) == digest.Content(wide) || len(digest.Diff(wide, wide)) != 0 || len(digest.Diff(wide, api.Unit{})) != 1 {
		t.Error("wide")
	}
	var many api.Unit
	for i := range 1 << 16 {
		many.Kids = append(many.Kids, api.Unit{Id: api.Id{Act: -i, N: i}, Kids: []api.Unit{{Id: api.Id{Item: i}}}})
	}
	got := digest.Diff(many, api.Unit{Label: "1"})
	if len(got) != 1<<17-1 || got[0].Act != 1-1<<16 || got[1<<17-2].Item != 1<<16-1 {
		t.Error(len(got))
	}
}

// Arguments and memory

// roomy returns a copy of the tree whose lists have spare capacity.
func roomy(u api.Unit) api.Unit {
	u.Head, u.Words = append(make([]api.Word, 0, len(u.Head)+3), u.Head...), append(make([]api.Word, 0, len(u.Words)+3), u.Words...)
	kids := make([]api.Unit, 0, len(u.Kids)+3)
	for _, kid := range u.Kids {
		kids = append(kids, roomy(kid))
	}
	u.Kids = kids
	return u
}

// whole returns a copy of the tree with all that the capacities of its lists hold.
func whole(u api.Unit) api.Unit {
	u.Head, u.Words, u.Kids = u.Head[:cap(u.Head)], u.Words[:cap(u.Words)], u.Kids[:cap(u.Kids)]
	var kids []api.Unit
	for _, kid := range u.Kids {
		kids = append(kids, whole(kid))
	}
	u.Head, u.Words, u.Kids = slices.Clone(u.Head), slices.Clone(u.Words), kids
	return u
}

func TestArgumentsAreNotModified(t *testing.T) {
	r := rand.New(rand.NewSource(5))
	for range 300 {
		a, b := roomy(randomTree(r, 3)), roomy(randomTree(r, 3))
		wantA, wantB := whole(a), whole(b)
		digest.Content(a)
		digest.Full(a)
		digest.Self(a)
		digest.Diff(a, b)
		if !unit.Equal(whole(a), wantA) || !unit.Equal(whole(b), wantB) {
			t.Fatal("an argument is modified")
		}
	}
}

// TestResultsAreNew changes a result, up to its capacity, and looks at the arguments and at other results, then the arguments.
func TestResultsAreNew(t *testing.T) {
	a, b := sample(), api.Unit{Id: number(9)}
	want := differing(a, b)
	one, two := digest.Diff(a, b), digest.Diff(a, b)
	for i := range one[:cap(one)] {
		one[:cap(one)][i] = number(77)
	}
	if !unit.Equal(a, sample()) || !slices.Equal(two, want) || !slices.Equal(digest.Diff(a, b), want) {
		t.Error("a result shares memory")
	}
	for _, x := range nodes(&a) {
		x.Id = number(55)
	}
	if !slices.Equal(two, want) {
		t.Error("a result shares memory with an argument")
	}
}
