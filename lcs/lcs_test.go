package lcs_test

import (
	"fmt"
	"math"
	"math/rand"
	"slices"
	"strings"
	"testing"

	"pandect/api"
	"pandect/lcs"
)

// words returns the pieces of s; the empty text has none.
func words(s string) []string {
	if s == "" {
		return nil
	}
	return strings.Split(s, " ")
}

// many returns n different words that begin with the prefix.
func many(prefix string, n int) []string {
	var l []string
	for i := range n {
		l = append(l, fmt.Sprint(prefix, i))
	}
	return l
}

// edit returns the edit that replaces the words of old at an index by those of by.
func edit(at int, old, by string) api.Edit {
	return api.Edit{At: at, Old: words(old), New: words(by)}
}

// sameEdits compares lists of edits; nil and empty lists of words are the same.
func sameEdits(a, b []api.Edit) bool {
	return slices.EqualFunc(a, b, func(x, y api.Edit) bool {
		return x.At == y.At && slices.Equal(x.Old, y.Old) && slices.Equal(x.New, y.New)
	})
}

// copyEdits returns a copy that shares nothing with l.
func copyEdits(l []api.Edit) []api.Edit {
	var out []api.Edit
	for _, e := range l {
		out = append(out, api.Edit{At: e.At, Old: slices.Clone(e.Old), New: slices.Clone(e.New)})
	}
	return out
}

// touched returns the number of words in Old and New of all edits.
func touched(l []api.Edit) int {
	n := 0
	for _, e := range l {
		n += len(e.Old) + len(e.New)
	}
	return n
}

// lists returns all lists of at most n words of the alphabet.
func lists(alphabet []string, n int) [][]string {
	out := [][]string{nil}
	for from := 0; len(out[from]) < n; from++ {
		for _, s := range alphabet {
			out = append(out, append(slices.Clone(out[from]), s))
		}
	}
	return out
}

// comparePairs orders lists of pairs lexicographically, pairs by A and then by B.
func comparePairs(a, b []api.Pair) int {
	return slices.CompareFunc(a, b, func(x, y api.Pair) int { return slices.Compare([]int{x.A, x.B}, []int{y.A, y.B}) })
}

// modelPairs returns, of all common subsequences, the one of the document's definition.
func modelPairs(a, b []string) []api.Pair {
	var best []api.Pair
	var extend func(l []api.Pair, fromA, fromB int)
	extend = func(l []api.Pair, fromA, fromB int) {
		if len(l) > len(best) || len(l) == len(best) && comparePairs(l, best) < 0 {
			best = slices.Clone(l)
		}
		for i := fromA; i < len(a); i++ {
			for j := fromB; j < len(b); j++ {
				if a[i] == b[j] {
					extend(append(slices.Clone(l), api.Pair{A: i, B: j}), i+1, j+1)
				}
			}
		}
	}
	extend(nil, 0, 0)
	return best
}

// modelDiff returns the edits of the document's definition: one for each gap that has a word.
func modelDiff(a, b []string, pairs []api.Pair) []api.Edit {
	var out []api.Edit
	for k := range len(pairs) + 1 {
		fromA, fromB, toA, toB := 0, 0, len(a), len(b)
		if k > 0 {
			fromA, fromB = pairs[k-1].A+1, pairs[k-1].B+1
		}
		if k < len(pairs) {
			toA, toB = pairs[k].A, pairs[k].B
		}
		if fromA < toA || fromB < toB {
			out = append(out, api.Edit{At: fromA, Old: a[fromA:toA], New: b[fromB:toB]})
		}
	}
	return out
}

// P5.1

func TestPairs(t *testing.T) {
	for i, c := range []struct {
		a, b string
		want []api.Pair
	}{
		{"", "", nil}, {"a", "", nil}, {"", "a", nil}, {"a b", "c d", nil}, {"a", "a", []api.Pair{{A: 0, B: 0}}}, {"a b c", "b d c", []api.Pair{{A: 1, B: 0}, {A: 2, B: 2}}}, {"a b c", "a b c", []api.Pair{{A: 0, B: 0}, {A: 1, B: 1}, {A: 2, B: 2}}},
		// Several longest common subsequences.
		{"a", "a a", []api.Pair{{A: 0, B: 0}}}, {"a a", "a", []api.Pair{{A: 0, B: 0}}}, {"a b", "b a", []api.Pair{{A: 0, B: 1}}}, {"c a", "a a", []api.Pair{{A: 1, B: 0}}}, {"a b a", "a a", []api.Pair{{A: 0, B: 0}, {A: 2, B: 1}}}, {"a a b", "a b b", []api.Pair{{A: 0, B: 0}, {A: 2, B: 1}}}, {"a b c", "c a b a", []api.Pair{{A: 0, B: 1}, {A: 1, B: 2}}}, {"x a b", "b a", []api.Pair{{A: 1, B: 1}}}, {"a b c d", "c d a b", []api.Pair{{A: 0, B: 2}, {A: 1, B: 3}}}, {"a x b c", "b c a x", []api.Pair{{A: 0, B: 2}, {A: 1, B: 3}}}, {"z a b c", "a z b z c a b", []api.Pair{{A: 0, B: 1}, {A: 1, B: 5}, {A: 2, B: 6}}},
	} {
		a, b := words(c.a), words(c.b)
		if got := lcs.Pairs(a, b); !slices.Equal(got, c.want) || lcs.Distance(a, b) != len(a)+len(b)-2*len(c.want) {
			t.Error(i, got, lcs.Distance(a, b))
		}
	}
}

// eachCouple calls f with every couple of short lists.
func eachCouple(f func(a, b []string)) {
	two, three := lists([]string{"a", "b"}, 5), lists([]string{"a", "b", "c"}, 4)
	for _, all := range [][][]string{two, three} {
		for _, a := range all {
			for _, b := range all {
				f(a, b)
			}
		}
	}
}

func TestPairsModel(t *testing.T) {
	eachCouple(func(a, b []string) {
		want := modelPairs(a, b)
		if got := lcs.Pairs(a, b); !slices.Equal(got, want) || lcs.Distance(a, b) != len(a)+len(b)-2*len(want) {
			t.Fatal(a, b, got, want, lcs.Distance(a, b))
		}
	})
	for n, r := 0, rand.New(rand.NewSource(5)); n < 3000; n++ {
		a, b := randomList(r, 2+r.Intn(4), r.Intn(8)), randomList(r, 2+r.Intn(4), r.Intn(8))
		if got, want := lcs.Pairs(a, b), modelPairs(a, b); !slices.Equal(got, want) {
			t.Fatal(a, b, got, want)
		}
	}
}

// randomList returns n words of an alphabet of the given size.
func randomList(r *rand.Rand, size, n int) []string {
	var l []string
	for range n {
		l = append(l, string(rune('a'+r.Intn(size))))
	}
	return l
}

// TestPairsOfAnyStrings uses strings that are not words.
func TestPairsOfAnyStrings(t *testing.T) {
	long := strings.Repeat("x", 100000)
	a := []string{"", " ", "a b", "\xff\x00", long, "é", ""}
	b := []string{"a b", "", long + "x", "\xff\x00", "", long, "É"}
	if got := lcs.Pairs(a, b); !slices.Equal(got, []api.Pair{{A: 0, B: 1}, {A: 3, B: 3}, {A: 4, B: 5}}) {
		t.Error(got)
	}
	if got, e := lcs.Apply(a, lcs.Diff(a, b)...); !slices.Equal(got, b) || e != api.OK {
		t.Errorf("%.50q %d", got, e)
	}
}

func TestPairsAtTheBound(t *testing.T) {
	full, over := many("a", 256), many("a", 257)
	if got := lcs.Pairs(full, full); len(got) != 256 || got[0] != (api.Pair{}) || got[255] != (api.Pair{A: 255, B: 255}) || lcs.Distance(full, full) != 0 {
		t.Error(got, lcs.Distance(full, full))
	}
	if got := lcs.Pairs(full, full[1:]); len(got) != 255 || got[254] != (api.Pair{A: 255, B: 254}) || lcs.Distance(full, full[1:]) != 1 {
		t.Error(got)
	}
	if got := lcs.Pairs(full, many("b", 256)); len(got) != 0 || lcs.Distance(full, many("b", 256)) != 512 {
		t.Error(got)
	}
	same := slices.Repeat([]string{"a"}, 256)
	if got := lcs.Pairs(same[:100], same); len(got) != 100 || got[99] != (api.Pair{A: 99, B: 99}) || lcs.Distance(same, same[:100]) != 156 {
		t.Error(got)
	}
	for i, c := range [][2][]string{{over, over}, {over, full}, {full, over}, {over, nil}, {nil, over}, {over, many("b", 257)}, {over, full[:1]}, {full[:1], over}, {over, many("a", 100000)}, {many("a", 100000), over}} {
		if got := lcs.Pairs(c[0], c[1]); len(got) != 0 || lcs.Distance(c[0], c[1]) != len(c[0])+len(c[1]) {
			t.Error(i, got, lcs.Distance(c[0], c[1]))
		}
	}
}

// P5.2: Diff

func TestDiff(t *testing.T) {
	for i, c := range []struct {
		a, b string
		want []api.Edit
	}{
		{"", "", nil}, {"a b", "a b", nil}, {"a b c", "b d c", []api.Edit{edit(0, "a", ""), edit(2, "", "d")}}, {"", "a b", []api.Edit{edit(0, "", "a b")}}, {"a b", "", []api.Edit{edit(0, "a b", "")}}, {"a b", "c d e", []api.Edit{edit(0, "a b", "c d e")}}, {"a b", "a c", []api.Edit{edit(1, "b", "c")}}, {"a b", "a b c d", []api.Edit{edit(2, "", "c d")}}, {"a b", "c a b", []api.Edit{edit(0, "", "c")}}, {"a b", "a", []api.Edit{edit(1, "b", "")}}, {"a b c d e", "x b y d z", []api.Edit{edit(0, "a", "x"), edit(2, "c", "y"), edit(4, "e", "z")}}, {"a b c", "a x y b c", []api.Edit{edit(1, "", "x y")}}, {"a x y b", "a b", []api.Edit{edit(1, "x y", "")}}, {"a", "a a", []api.Edit{edit(1, "", "a")}}, {"a a", "a", []api.Edit{edit(1, "a", "")}}, {"a b", "b a", []api.Edit{edit(0, "", "b"), edit(1, "b", "")}},
	} {
		if got := lcs.Diff(words(c.a), words(c.b)); !sameEdits(got, c.want) {
			t.Error(i, got)
		}
	}
}

func TestDiffAtTheBound(t *testing.T) {
	full, over := many("a", 256), many("a", 257)
	changed := slices.Clone(over)
	changed[100] = "changed"
	if got := lcs.Diff(full, append(slices.Clone(full[:255]), "z")); !sameEdits(got, []api.Edit{edit(255, "a255", "z")}) {
		t.Error(got)
	}
	if got := lcs.Diff(full, full); len(got) != 0 {
		t.Error(got)
	}
	if got := lcs.Diff(over, slices.Clone(over)); len(got) != 0 {
		t.Error(got)
	}
	for i, c := range [][2][]string{{over, full}, {full, over}, {over, changed}, {over, nil}, {nil, over}, {over, full[:1]}, {full[:1], over}, {changed, many("b", 300)}} {
		a, b := c[0], c[1]
		got := lcs.Diff(a, b)
		if !sameEdits(got, []api.Edit{{At: 0, Old: a, New: b}}) {
			t.Error(i, len(got))
		}
		if there, e := lcs.Apply(a, got...); !slices.Equal(there, b) || e != api.OK {
			t.Error(i, e)
		}
		if back, e := lcs.Apply(b, lcs.Invert(got...)...); !slices.Equal(back, a) || e != api.OK {
			t.Error(i, e)
		}
	}
}

// P5.2: Apply

func TestApply(t *testing.T) {
	for i, c := range []struct {
		a    string
		l    []api.Edit
		want string
	}{
		{"", nil, ""}, {"a b", nil, "a b"}, {"", []api.Edit{edit(0, "", "a")}, "a"}, {"a", []api.Edit{edit(0, "a", "")}, ""}, {"a", []api.Edit{edit(0, "a", "a")}, "a"}, {"a", []api.Edit{edit(0, "", "b")}, "b a"}, {"a", []api.Edit{edit(1, "", "b")}, "a b"}, {"a b c", []api.Edit{edit(0, "a", ""), edit(2, "", "d")}, "b d c"}, {"a b c", []api.Edit{edit(0, "", "x"), edit(1, "", "y"), edit(2, "", "z"), edit(3, "", "w")}, "x a y b z c w"}, {"a b c d", []api.Edit{edit(0, "a b", "x"), edit(3, "d", "y z")}, "x c y z"}, {"a b c", []api.Edit{edit(0, "a b c", "z")}, "z"}, {"a b c", []api.Edit{edit(1, "b", "b b"), edit(3, "", "d")}, "a b b c d"}, {"a b", []api.Edit{edit(0, "", "x"), edit(1, "b", "y")}, "x a y"}, {"a a a", []api.Edit{edit(1, "a", "b")}, "a b a"},
	} {
		a := words(c.a)
		if got, e := lcs.Apply(a, c.l...); !slices.Equal(got, words(c.want)) || e != api.OK {
			t.Error(i, got, e)
		}
	}
	full := many("a", 256)
	if got, e := lcs.Apply(full, api.Edit{At: 256, New: full}); !slices.Equal(got, slices.Concat(full, full)) || e != api.OK {
		t.Error(len(got), e)
	}
	over := many("a", 300)
	if got, e := lcs.Apply(over, api.Edit{At: 299, Old: over[299:], New: words("z")}); !slices.Equal(got, append(slices.Clone(over[:299]), "z")) || e != api.OK {
		t.Error(len(got), e)
	}
}

func TestApplyRefuses(t *testing.T) {
	for i, l := range [][]api.Edit{
		{edit(0, "", "")}, {edit(1, "", "")}, {edit(0, "a", "x"), edit(2, "", "")}, // nothing to do
		{edit(0, "b", "x")}, {edit(1, "a", "x")}, {edit(0, "a c", "x")}, {edit(0, "ab", "x")}, {edit(0, "A", "x")}, {edit(2, "c d", "x")}, {edit(0, "a b c d", "x")}, {edit(1, "b c d", "")}, // Old does not occur there
		{edit(3, "c", "x")}, {edit(3, "a", "x")}, {edit(4, "", "x")}, {edit(4, "a", "x")}, {edit(1000, "", "x")}, {edit(math.MaxInt, "", "x")}, {edit(math.MaxInt, "a", "x")}, {edit(math.MaxInt-1, "a b", "x")}, {edit(0, "a", "x"), edit(4, "", "y")}, // outside
		{edit(-1, "", "x")}, {edit(-1, "a", "x")}, {edit(-1, "c", "x")}, {edit(math.MinInt, "", "x")}, {edit(math.MinInt, "a", "x")}, {edit(0, "a", "x"), edit(-1, "", "y")}, // negative
		{edit(0, "a b", "x"), edit(1, "b c", "y")}, {edit(0, "a b c", "x"), edit(1, "b", "y")}, {edit(0, "a b", "x"), edit(1, "", "y")}, {edit(0, "a", "x"), edit(0, "a", "y")}, {edit(0, "a b", "x"), edit(0, "a", "y")}, // overlapping
		{edit(0, "a", "x"), edit(1, "b", "y")}, {edit(0, "a", "x"), edit(1, "", "y")}, {edit(0, "a b", ""), edit(2, "c", "")}, {edit(2, "c", "x"), edit(3, "", "y")}, {edit(0, "", "x"), edit(0, "a", "y")}, {edit(0, "", "x"), edit(0, "", "y")}, {edit(3, "", "x"), edit(3, "", "y")}, // touching
		{edit(2, "c", "x"), edit(0, "a", "y")}, {edit(3, "", "x"), edit(1, "", "y")}, {edit(0, "a", "x"), edit(2, "c", "y"), edit(1, "b", "z")}, {edit(2, "", "x"), edit(0, "", "y")}, // out of order
	} {
		if got, e := lcs.Apply(words("a b c"), l...); len(got) != 0 || e != api.ErrForm {
			t.Error(i, l, got, e)
		}
	}
	for i, e := range []api.Edit{edit(0, "", ""), edit(0, "a", ""), edit(1, "", "x"), edit(-1, "", "x")} {
		if got, err := lcs.Apply(nil, e); len(got) != 0 || err != api.ErrForm {
			t.Error(i, got, err)
		}
	}
}

// modelApply follows the definition of a list of edits clause by clause, and applies the edits from the last one to the first.
func modelApply(a []string, l []api.Edit) ([]string, bool) {
	for i, e := range l {
		if len(e.Old)+len(e.New) == 0 || e.At < 0 || e.At > len(a) || len(a[e.At:]) < len(e.Old) || strings.Join(a[e.At:][:len(e.Old)], "|") != strings.Join(e.Old, "|") {
			return nil, false
		}
		for _, before := range l[:i] {
			if before.At >= e.At || before.At+len(before.Old) >= e.At {
				return nil, false
			}
		}
	}
	out := slices.Clone(a)
	for _, e := range slices.Backward(l) {
		out = slices.Replace(out, e.At, e.At+len(e.Old), e.New...)
	}
	return out, true
}

// TestApplyModel applies every list of at most three edits of a small set.
func TestApplyModel(t *testing.T) {
	var edits []api.Edit
	for at := -1; at <= 5; at++ {
		for _, old := range []string{"", "a", "b", "a b", "a b a"} {
			for _, by := range []string{"", "x y"} {
				edits = append(edits, edit(at, old, by))
			}
		}
	}
	a := words("a b a b")
	accepted := 0
	check := func(l ...api.Edit) {
		want, ok := modelApply(a, l)
		got, e := lcs.Apply(a, l...)
		if !slices.Equal(got, want) || (e == api.OK) != ok || !ok && e != api.ErrForm {
			t.Fatal(l, got, e, want, ok)
		}
		if !ok {
			return
		}
		accepted++
		if back, e := lcs.Apply(got, lcs.Invert(l...)...); !slices.Equal(back, a) || e != api.OK {
			t.Fatal(l, lcs.Invert(l...), back, e)
		}
	}
	for _, first := range edits {
		check(first)
		for _, second := range edits {
			check(first, second)
			for _, third := range edits {
				check(first, second, third)
			}
		}
	}
	if accepted < 50 {
		t.Error("too few lists:", accepted)
	}
}

// P5.3

func TestInvert(t *testing.T) {
	for i, c := range []struct{ l, want []api.Edit }{
		{nil, nil}, {[]api.Edit{edit(0, "a", "b")}, []api.Edit{edit(0, "b", "a")}}, {[]api.Edit{edit(0, "a", ""), edit(2, "", "d")}, []api.Edit{edit(0, "", "a"), edit(1, "d", "")}}, {[]api.Edit{edit(1, "a", "x y z"), edit(3, "b c", ""), edit(9, "d", "e")}, []api.Edit{edit(1, "x y z", "a"), edit(5, "", "b c"), edit(9, "e", "d")}}, {[]api.Edit{edit(0, "", "x"), edit(1, "", "y"), edit(2, "", "z")}, []api.Edit{edit(0, "x", ""), edit(2, "y", ""), edit(4, "z", "")}}, {[]api.Edit{edit(5, "a b c", "d"), edit(10, "e", "f")}, []api.Edit{edit(5, "d", "a b c"), edit(8, "f", "e")}},
		// Lists that are not lists of edits of any words.
		{[]api.Edit{edit(-3, "a", "b c"), edit(-3, "", ""), edit(-9, "d", "")}, []api.Edit{edit(-3, "b c", "a"), edit(-2, "", ""), edit(-8, "", "d")}}, {[]api.Edit{edit(math.MaxInt, "", "a"), edit(math.MinInt, "b", "c")}, []api.Edit{edit(math.MaxInt, "a", ""), edit(math.MinInt+1, "c", "b")}},
	} {
		if got := lcs.Invert(c.l...); !sameEdits(got, c.want) {
			t.Error(i, got)
		}
	}
	// A shift beyond the greatest integer does not panic.
	if got := lcs.Invert(edit(0, "", "a"), edit(math.MaxInt, "b", "")); len(got) != 2 || !slices.Equal(got[1].New, words("b")) {
		t.Error(got)
	}
}

// P5.4

// modelIncreasing returns, of all increasing subsequences, the one of the document's definition.
func modelIncreasing(l []int) []int {
	var best []int
	for set := range 1 << len(l) {
		var at []int
		for i := range l {
			if set>>i&1 == 1 {
				at = append(at, i)
			}
		}
		increasing := true
		for k := 1; k < len(at); k++ {
			increasing = increasing && l[at[k-1]] < l[at[k]]
		}
		if increasing && (len(at) > len(best) || len(at) == len(best) && slices.Compare(at, best) < 0) {
			best = at
		}
	}
	return best
}

func TestLongestIncreasing(t *testing.T) {
	for i, c := range []struct{ l, want []int }{
		{nil, nil}, {[]int{7}, []int{0}}, {[]int{math.MinInt}, []int{0}}, {[]int{3, 1, 2}, []int{1, 2}}, {[]int{1, 2, 3}, []int{0, 1, 2}}, {[]int{5, 5, 5}, []int{0}}, {[]int{3, 2, 1}, []int{0}}, {[]int{1, 1, 2, 2}, []int{0, 2}}, {[]int{2, 1, 3, 4}, []int{0, 2, 3}}, {[]int{1, 3, 2, 4}, []int{0, 1, 3}}, {[]int{4, 5, 1, 2, 3}, []int{2, 3, 4}}, {[]int{4, 5, 1, 2}, []int{0, 1}}, {[]int{2, 5, 3, 4, 1}, []int{0, 2, 3}}, {[]int{0, -1, -2, 7}, []int{0, 3}},
		{[]int{math.MinInt, math.MaxInt}, []int{0, 1}}, {[]int{math.MaxInt, math.MinInt}, []int{0}}, {[]int{math.MinInt, math.MinInt}, []int{0}}, {[]int{math.MaxInt, math.MaxInt}, []int{0}}, {[]int{math.MaxInt, math.MinInt, 0, math.MaxInt}, []int{1, 2, 3}}, {[]int{0, math.MinInt, math.MaxInt, 1, 2}, []int{0, 3, 4}},
	} {
		if got := lcs.LongestIncreasing(c.l...); !slices.Equal(got, c.want) {
			t.Error(i, got)
		}
	}
}

func TestLongestIncreasingModel(t *testing.T) {
	var extend func(l []int)
	extend = func(l []int) {
		if got, want := lcs.LongestIncreasing(l...), modelIncreasing(l); !slices.Equal(got, want) {
			t.Fatal(l, got, want)
		}
		if len(l) == 6 {
			return
		}
		for n := range 4 {
			extend(append(slices.Clone(l), n))
		}
	}
	extend(nil)
	for n, r := 0, rand.New(rand.NewSource(54)); n < 200; n++ {
		l := r.Perm(r.Intn(13))
		if got, want := lcs.LongestIncreasing(l...), modelIncreasing(l); !slices.Equal(got, want) {
			t.Fatal(l, got, want)
		}
	}
}

func TestLongestIncreasingAtTheBound(t *testing.T) {
	rising := make([]int, 257)
	for i := range rising {
		rising[i] = i - 100
	}
	if got := lcs.LongestIncreasing(rising[:256]...); len(got) != 256 || got[0] != 0 || got[255] != 255 {
		t.Error(got)
	}
	falling := slices.Clone(rising[:256])
	slices.Reverse(falling)
	if got := lcs.LongestIncreasing(falling...); !slices.Equal(got, []int{0}) {
		t.Error(got)
	}
	for i, l := range [][]int{rising, make([]int, 257), make([]int, 100000)} {
		if got := lcs.LongestIncreasing(l...); len(got) != 0 {
			t.Error(i, got)
		}
	}
}

// P5.5

// fewest returns the fewest words that a list of edits from a[i:] to b[j:] touches. An edit may begin only where the preceding one does not end.
func fewest(a, b []string, i, j int, mayEdit bool) int {
	if i == len(a) && j == len(b) {
		return 0
	}
	best := math.MaxInt / 2
	if i < len(a) && j < len(b) && a[i] == b[j] {
		best = fewest(a, b, i+1, j+1, true)
	}
	for old := 0; mayEdit && old <= len(a)-i; old++ {
		for by := 0; by <= len(b)-j; by++ {
			if old+by > 0 {
				best = min(best, old+by+fewest(a, b, i+old, j+by, false))
			}
		}
	}
	return best
}

func TestConsequences(t *testing.T) {
	eachCouple(func(a, b []string) {
		l := lcs.Diff(a, b)
		if want := modelDiff(a, b, modelPairs(a, b)); !sameEdits(l, want) {
			t.Fatal(a, b, l, want)
		}
		if slices.Equal(a, b) != (len(l) == 0) {
			t.Fatal(a, b, l)
		}
		if got, e := lcs.Apply(a, l...); !slices.Equal(got, b) || e != api.OK {
			t.Fatal(a, b, l, got, e)
		}
		if got, e := lcs.Apply(b, lcs.Invert(l...)...); !slices.Equal(got, a) || e != api.OK {
			t.Fatal(a, b, lcs.Invert(l...), got, e)
		}
		if n := lcs.Distance(a, b); touched(l) != n || fewest(a, b, 0, 0, true) != n {
			t.Fatal(a, b, n, touched(l), fewest(a, b, 0, 0, true))
		}
	})
}

// TestConsequencesOfLongLists goes there and back between lists of up to 256 words.
func TestConsequencesOfLongLists(t *testing.T) {
	for n, r := 0, rand.New(rand.NewSource(55)); n < 100; n++ {
		a, b := randomList(r, 1+r.Intn(20), 200+r.Intn(57)), randomList(r, 1+r.Intn(20), 200+r.Intn(57))
		l := lcs.Diff(a, b)
		if !sameEdits(l, modelDiff(a, b, lcs.Pairs(a, b))) || touched(l) != lcs.Distance(a, b) {
			t.Fatal(a, b, l)
		}
		if got, e := lcs.Apply(a, l...); !slices.Equal(got, b) || e != api.OK {
			t.Fatal(a, b, got, e)
		}
		if got, e := lcs.Apply(b, lcs.Invert(l...)...); !slices.Equal(got, a) || e != api.OK {
			t.Fatal(a, b, got, e)
		}
	}
}

// spoil overwrites the words of a list up to its capacity.
func spoil(l []string) {
	l = l[:cap(l)]
	for i := range l {
		l[i] = "spoiled"
	}
}

// spoilEdits overwrites a list of edits and its lists of words up to their capacity.
func spoilEdits(l []api.Edit) {
	l = l[:cap(l)]
	for i := range l {
		spoil(l[i].Old)
		spoil(l[i].New)
		l[i] = api.Edit{At: 99}
	}
}

// TestArgumentsAndResults changes each result, up to its capacity, and looks at the arguments and at another result.
func TestArgumentsAndResults(t *testing.T) {
	backingA, backingB := words("a b c d e spare spare"), words("x b y d spare spare")
	for _, n := range [][2]int{{5, 4}, {5, 0}, {0, 4}, {1, 1}, {2, 2}} {
		a, b := backingA[:n[0]], backingB[:n[1]]
		pairs := lcs.Pairs(a, b)
		clear(pairs[:cap(pairs)])
		if !slices.Equal(lcs.Pairs(a, b), modelPairs(a, b)) {
			t.Error(lcs.Pairs(a, b))
		}
		edits := lcs.Diff(a, b)
		spoilEdits(edits)
		if edits = lcs.Diff(a, b); !sameEdits(edits, modelDiff(a, b, modelPairs(a, b))) {
			t.Error(edits)
		}
		saved := copyEdits(edits)
		inverse := lcs.Invert(edits...)
		spoilEdits(inverse)
		there, _ := lcs.Apply(a, edits...)
		spoil(there)
		same, _ := lcs.Apply(a)
		spoil(same)
		if there, e := lcs.Apply(a, edits...); !slices.Equal(there, b) || e != api.OK || !sameEdits(edits, saved) {
			t.Error(there, e, edits)
		}
		lcs.Distance(a, b)
	}
	if !slices.Equal(backingA, words("a b c d e spare spare")) || !slices.Equal(backingB, words("x b y d spare spare")) {
		t.Error(backingA, backingB)
	}
}

// TestEditsShareNothing changes the words of one edit of a result and looks at the others, and at the arguments of long lists.
func TestEditsShareNothing(t *testing.T) {
	a, b := words("a k b k c"), words("x k y k z")
	for i, result := range []func() []api.Edit{func() []api.Edit { return lcs.Diff(a, b) }, func() []api.Edit { return lcs.Invert(lcs.Diff(a, b)...) }} {
		want := result()
		for k := range want {
			got := result()
			spoil(got[k].Old)
			got[k].Old = want[k].Old
			if !sameEdits(got, want) {
				t.Error(i, k, got)
			}
			spoil(got[k].New)
			got[k].New = want[k].New
			if !sameEdits(got, want) {
				t.Error(i, k, got)
			}
		}
	}
	long := many("a", 257)
	spoilEdits(lcs.Diff(long, long[:1]))
	spoilEdits(lcs.Diff(long[:1], long))
	if !slices.Equal(long, many("a", 257)) {
		t.Error("changed")
	}
	numbers := []int{3, 1, 2, 99, 99}
	at := lcs.LongestIncreasing(numbers[:3]...)
	clear(at[:cap(at)])
	if got := lcs.LongestIncreasing(numbers[:3]...); !slices.Equal(got, []int{1, 2}) || !slices.Equal(numbers, []int{3, 1, 2, 99, 99}) {
		t.Error(got, numbers)
	}
}
