package wordseq_test

import (
	"fmt"
	"math"
	"slices"
	"strings"
	"testing"

	"pandect/api"
	"pandect/wordseq"
)

// words returns the pieces of s, with no limits; the empty text has none.
func words(s string) []string {
	if s == "" {
		return nil
	}
	return strings.Split(s, " ")
}

// many returns n words.
func many(n int) []string {
	var l []string
	for i := range n {
		l = append(l, fmt.Sprint("w", i))
	}
	return l
}

// printable contains every byte that a word may contain.
func printable() string {
	var b strings.Builder
	for c := byte(33); c <= 126; c++ {
		b.WriteByte(c)
	}
	return b.String()
}

// notWords are strings that are not words. None contains a space.
var notWords = []string{"", "\x00", "\t", "\n", "\x1f", "\x7f", "\x80", "\xa0", "\xff", "a\x1f", "\x1fa", "a\x7f", "\x7fa", "a\x80b", "a\tb", "é", "日本", "aé", "a\u00a0b", "a\nb", strings.Repeat("a", 25), strings.Repeat("a", 24) + "\x00", strings.Repeat("a", 1000)}

// wordSamples are words at the edges of the definition.
var wordSamples = []string{"a", "!", "~", "\"", "'", "\\", "-", "0", "A.", "(1)", "a!", "!a", "~~", strings.Repeat("a", 23), strings.Repeat("a", 24), strings.Repeat("!", 24), strings.Repeat("~", 24)}

// P4.1: Valid and Join

func TestValidJoin(t *testing.T) {
	for i, l := range [][]string{nil, {}, {"a"}, {"a", "a"}, {"a", "b", "c"}, wordSamples, {printable()[:24], printable()[24:48], printable()[48:72], printable()[72:]}, many(255), many(256)} {
		before := slices.Clone(l)
		want := ""
		for k, s := range l {
			if k > 0 {
				want += " "
			}
			want += s
		}
		if got := wordseq.Join(l...); !wordseq.Valid(l...) || got != want || !slices.Equal(l, before) {
			t.Error(i, got)
		}
	}
	for _, s := range wordSamples {
		if !wordseq.Valid(s) || wordseq.Join(s) != s || wordseq.Join(s, s) != s+" "+s {
			t.Errorf("%q", s)
		}
	}
	if wordseq.Join() != "" || !wordseq.Valid() {
		t.Error("the empty sequence")
	}
}

func TestNotValid(t *testing.T) {
	lists := [][]string{{" "}, {"a b"}, {" a"}, {"a "}, {"a", " "}, many(257), many(1000), make([]string, 1), make([]string, 256)}
	for _, s := range notWords {
		lists = append(lists, []string{s}, []string{s, "a"}, []string{"a", s}, []string{"a", s, "b"}, append(many(255), s), append([]string{s}, many(256)...))
	}
	for _, l := range lists {
		if got := wordseq.Join(l...); wordseq.Valid(l...) || got != "" {
			t.Errorf("%q: %q", l, got)
		}
	}
}

// TestEveryByte puts every byte into a word, at each of its places.
func TestEveryByte(t *testing.T) {
	for c := range 256 {
		one := string([]byte{byte(c)})
		isWord := c >= 33 && c <= 126
		for _, s := range []string{one, one + "bc", "a" + one + "c", "ab" + one, strings.Repeat("a", 23) + one} {
			if wordseq.Valid(s) != isWord || (wordseq.Join(s) == s) != isWord {
				t.Errorf("%q", s)
			}
			l, e := wordseq.Split(s)
			switch {
			case isWord && (e != api.OK || !slices.Equal(l, []string{s})):
				t.Errorf("%q: %q %d", s, l, e)
			case c == ' ' && s == "a c" && (e != api.OK || !slices.Equal(l, []string{"a", "c"})):
				t.Errorf("%q: %q %d", s, l, e)
			case c != ' ' && !isWord && (e != api.ErrForm || len(l) != 0):
				t.Errorf("%q: %q %d", s, l, e)
			}
		}
	}
	for n := range 60 {
		s := strings.Repeat("a", n)
		if wordseq.Valid(s) != (n >= 1 && n <= 24) {
			t.Error(n)
		}
	}
}

// P4.1: Split and its errors

func TestSplit(t *testing.T) {
	for s, want := range map[string][]string{"": nil, "a": {"a"}, "a b": {"a", "b"}, "a b c": {"a", "b", "c"}, "a a a": {"a", "a", "a"}, "! ~": {"!", "~"}, "see section 12A .": {"see", "section", "12A", "."}, strings.Repeat("a", 24) + " b": {strings.Repeat("a", 24), "b"}} {
		if l, e := wordseq.Split(s); !slices.Equal(l, want) || e != api.OK {
			t.Errorf("%q: %q %d", s, l, e)
		}
	}
	for _, n := range []int{1, 2, 255, 256} {
		if l, e := wordseq.Split(strings.Join(many(n), " ")); !slices.Equal(l, many(n)) || e != api.OK {
			t.Error(n, len(l), e)
		}
	}
}

func TestSplitForm(t *testing.T) {
	texts := []string{" ", "  ", " a", "a ", "a  b", " a b", "a b ", "  a", "a   b", "a b  ", strings.Repeat(" ", 300)}
	for _, s := range notWords[1:] { // the empty piece is that of doubled spaces
		texts = append(texts, s, s+" a", "a "+s, "a "+s+" b")
	}
	// Beside more than 256 pieces too: the error named first applies.
	full := strings.Join(many(256), " ")
	for _, s := range notWords {
		texts = append(texts, full+" "+s, full+" a "+s, s+" "+full, full+" "+s+" "+full)
	}
	for _, s := range texts {
		if l, e := wordseq.Split(s); len(l) != 0 || e != api.ErrForm {
			t.Errorf("%.60q: %d words, %d", s, len(l), e)
		}
	}
}

func TestSplitFull(t *testing.T) {
	for _, n := range []int{257, 258, 1000, 100000} {
		if l, e := wordseq.Split(strings.Join(many(n), " ")); len(l) != 0 || e != api.ErrFull {
			t.Error(n, len(l), e)
		}
	}
}

// P4.2

// eachSequence calls f with all sequences of at most n elements of the alphabet.
func eachSequence(alphabet []string, n int, f func(l []string)) {
	var extend func(l []string)
	extend = func(l []string) {
		f(l)
		if len(l) == n {
			return
		}
		for _, s := range alphabet {
			extend(append(slices.Clone(l), s))
		}
	}
	extend(nil)
}

func TestSplitJoin(t *testing.T) {
	check := func(l []string) {
		if got, e := wordseq.Split(wordseq.Join(l...)); !slices.Equal(got, l) || e != api.OK {
			t.Errorf("%q: %q %d", l, got, e)
		}
	}
	eachSequence([]string{"a", "!", "~,", strings.Repeat("z", 24)}, 4, check)
	check(wordSamples)
	check(many(256))
}

// TestSplitJoinTexts checks every short text over some bytes: it is refused, or the text of its sequence.
func TestSplitJoinTexts(t *testing.T) {
	accepted := 0
	eachSequence([]string{" ", "a", "~", "\x1f"}, 6, func(l []string) {
		s := strings.Join(l, "")
		got, e := wordseq.Split(s)
		wrong := strings.Contains(s, "\x1f") || strings.HasPrefix(s, " ") || strings.HasSuffix(s, " ") || strings.Contains(s, "  ")
		if wrong && (e != api.ErrForm || len(got) != 0) || !wrong && (e != api.OK || wordseq.Join(got...) != s) {
			t.Errorf("%q: %q %d", s, got, e)
		}
		if e == api.OK {
			accepted++
		}
	})
	if accepted < 100 {
		t.Error("too few texts:", accepted)
	}
}

// P4.1: occurrences

func TestFindAllCount(t *testing.T) {
	for i, c := range []struct {
		l, part string
		want    []int
	}{
		{"a a a b a a", "a a", []int{0, 4}}, {"", "", nil}, {"", "a", nil}, {"a", "", nil}, {"a b c", "", nil}, {"a", "a", []int{0}}, {"a", "b", nil}, {"a", "a a", nil}, {"a b a b a", "a b a", []int{0}}, {"a b a b a b a", "a b a", []int{0, 4}}, {"a a a a a", "a a", []int{0, 2}}, {"a a a a a", "a a a", []int{0}}, {"a a b a a a b", "a a b", []int{0, 4}}, {"a a a b", "a a b", []int{1}}, {"a b a b a c", "a b a c", []int{2}}, {"b a", "a", []int{1}}, {"x a y a", "a", []int{1, 3}}, {"a b c", "a b c", []int{0}}, {"a b c", "a b c d", nil}, {"a b c", "b c", []int{1}}, {"a b c", "c d", nil}, {"ab", "a", nil}, {"a b", "ab", nil}, {"A a", "a", []int{1}}, {"a  b", "", nil},
	} {
		l, part := words(c.l), words(c.part)
		if got := wordseq.FindAll(l, part); !slices.Equal(got, c.want) || wordseq.Count(l, part) != len(c.want) {
			t.Error(i, got, wordseq.Count(l, part))
		}
	}
	// Any strings are elements, those that are not words too.
	odd := []string{"", " ", "", "\xff", "", " "}
	if got := wordseq.FindAll(odd, []string{"", " "}); !slices.Equal(got, []int{0, 4}) {
		t.Error(got)
	}
	if got := wordseq.FindAll(odd, []string{""}); !slices.Equal(got, []int{0, 2, 4}) {
		t.Error(got)
	}
	if long := slices.Repeat([]string{"a"}, 1001); wordseq.Count(long, []string{"a", "a"}) != 500 {
		t.Error(wordseq.Count(long, []string{"a", "a"}))
	}
}

// modelFind follows the definition of the occurrences.
func modelFind(l, part []string) []int {
	var out []int
	end := 0
	for i := range l {
		if len(part) > 0 && i >= end && i+len(part) <= len(l) && strings.Join(l[i:i+len(part)], "|") == strings.Join(part, "|") {
			out = append(out, i)
			end = i + len(part)
		}
	}
	return out
}

// modelRewrite returns l with the nth occurrence of part (every occurrence if nth is 0) replaced.
func modelRewrite(l, part, by []string, nth int) ([]string, int) {
	var out []string
	count, i := 0, 0
	at := modelFind(l, part)
	for i < len(l) {
		k := slices.Index(at, i)
		switch {
		case k < 0:
			out = append(out, l[i])
			i++
		case nth == 0 || k == nth-1:
			out = append(out, by...)
			i += len(part)
			count++
		default:
			out = append(out, part...)
			i += len(part)
		}
	}
	return out, count
}

func TestReplace(t *testing.T) {
	for i, c := range []struct {
		l, old, by string
		nth        int
		want       string
		count      int
	}{
		{"a b b", "b", "c d", 2, "a b c d", 1}, {"a b b", "b", "c d", 1, "a c d b", 1}, {"a b b", "b", "c d", 0, "a c d c d", 2}, {"a b b", "b", "c d", 3, "a b b", 0}, {"a b b", "b", "c d", -1, "a b b", 0}, {"a b b", "b", "c d", math.MaxInt, "a b b", 0}, {"a b b", "b", "c d", math.MinInt, "a b b", 0},
		{"a b b", "x", "c", 0, "a b b", 0}, {"a b b", "", "c", 0, "a b b", 0}, {"a b b", "", "c", 1, "a b b", 0}, {"a b b", "", "c", -1, "a b b", 0}, {"", "a", "b", 0, "", 0}, {"", "", "b", 0, "", 0}, {"", "", "b", 1, "", 0},
		{"a b b", "b", "", 0, "a", 2}, {"a b b", "b", "", 1, "a b", 1}, {"a", "a", "", 0, "", 1}, {"a b b", "b", "b b", 0, "a b b b b", 2}, {"a b b", "b", "b", 0, "a b b", 2}, {"a a a b a a", "a a", "x", 0, "x a b x", 2}, {"a a a b a a", "a a", "x", 1, "x a b a a", 1}, {"a a a b a a", "a a", "x", 2, "a a a b x", 1}, {"a a a b a a", "a a", "x", 3, "a a a b a a", 0}, {"a b a b a", "a b a", "x", 0, "x b a", 1}, {"a b a b a", "a b a", "x", 2, "a b a b a", 0}, {"a a a", "a", "a a", 0, "a a a a a a", 3}, {"x a b y", "a b", "b a", 0, "x b a y", 1},
	} {
		got, count := wordseq.Replace(words(c.l), words(c.old), words(c.by), c.nth)
		if !slices.Equal(got, words(c.want)) || count != c.count {
			t.Errorf("%d: %q %d", i, got, count)
		}
	}
}

func TestInsertAfter(t *testing.T) {
	for i, c := range []struct {
		l, part, by string
		nth         int
		want        string
		count       int
	}{
		{"a", "", "x", 0, "x a", 1}, {"", "", "x", 0, "x", 1}, {"a b", "", "x y", 0, "x y a b", 1}, {"a b", "", "", 0, "a b", 1}, {"", "", "", 0, "", 1}, {"a", "", "x", 1, "a", 0}, {"a", "", "x", 2, "a", 0}, {"a", "", "x", -1, "a", 0}, {"a", "", "x", math.MinInt, "a", 0}, {"a", "", "x", math.MaxInt, "a", 0}, {"", "", "x", 1, "", 0},
		{"a b b", "b", "c d", 2, "a b b c d", 1}, {"a b b", "b", "c d", 1, "a b c d b", 1}, {"a b b", "b", "c d", 0, "a b c d b c d", 2}, {"a b b", "b", "c d", 3, "a b b", 0}, {"a b b", "b", "c d", -1, "a b b", 0}, {"a b b", "b", "c d", math.MinInt, "a b b", 0}, {"a b b", "b", "c d", math.MaxInt, "a b b", 0}, {"a b b", "x", "c", 0, "a b b", 0}, {"", "a", "b", 0, "", 0}, {"a b b", "b", "", 0, "a b b", 2}, {"a b b", "b", "b", 0, "a b b b b", 2}, {"a a a b a a", "a a", "x", 0, "a a x a b a a x", 2}, {"a a a b a a", "a a", "x", 1, "a a x a b a a", 1}, {"a a a b a a", "a a", "x", 2, "a a a b a a x", 1}, {"a a a b a a", "a a", "x", 3, "a a a b a a", 0}, {"a a a", "a", "a", 0, "a a a a a a", 3}, {"x a b y", "a b", "z", 0, "x a b z y", 1},
	} {
		got, count := wordseq.InsertAfter(words(c.l), words(c.part), words(c.by), c.nth)
		if !slices.Equal(got, words(c.want)) || count != c.count {
			t.Errorf("%d: %q %d", i, got, count)
		}
	}
}

// TestNotValidSequences checks that Replace and InsertAfter accept any strings, and results that are not valid.
func TestNotValidSequences(t *testing.T) {
	odd := []string{"", "a b", "\xff", "", strings.Repeat("x", 100)}
	if got, n := wordseq.Replace(odd, []string{""}, []string{"\n", " "}, 0); n != 2 || !slices.Equal(got, []string{"\n", " ", "a b", "\xff", "\n", " ", strings.Repeat("x", 100)}) {
		t.Errorf("%q %d", got, n)
	}
	if got, n := wordseq.InsertAfter(odd, []string{"a b", "\xff"}, []string{""}, 1); n != 1 || !slices.Equal(got, []string{"", "a b", "\xff", "", "", strings.Repeat("x", 100)}) {
		t.Errorf("%q %d", got, n)
	}
	if got, n := wordseq.InsertAfter(odd, nil, []string{"", ""}, 0); n != 1 || !slices.Equal(got, append([]string{"", ""}, odd...)) {
		t.Errorf("%q %d", got, n)
	}
	long := slices.Repeat([]string{"a"}, 300)
	if got, n := wordseq.Replace(long, []string{"a"}, []string{"b", "c"}, 0); n != 300 || len(got) != 600 || wordseq.Count(got, []string{"b", "c"}) != 300 {
		t.Error(n, len(got))
	}
	if got, n := wordseq.InsertAfter(long, []string{"a"}, many(257), 300); n != 1 || len(got) != 557 || !slices.Equal(got[300:], many(257)) {
		t.Error(n, len(got))
	}
}

// eachSample calls f with short sequences and patterns over two words.
func eachSample(f func(l, part []string)) {
	two := []string{"a", "b"}
	eachSequence(two, 7, func(l []string) {
		eachSequence(two, 3, func(part []string) { f(l, part) })
	})
}

func TestOccurrencesModel(t *testing.T) {
	eachSample(func(l, part []string) {
		at := modelFind(l, part)
		if got := wordseq.FindAll(l, part); !slices.Equal(got, at) || wordseq.Count(l, part) != len(at) {
			t.Fatal(l, part, got)
		}
		for _, by := range [][]string{nil, {"b"}, {"a", "b"}} {
			for nth := -1; nth <= len(at)+1; nth++ {
				want, count := modelRewrite(l, part, by, nth)
				if got, n := wordseq.Replace(l, part, by, nth); !slices.Equal(got, want) || n != count {
					t.Fatal(l, part, by, nth, got, n)
				}
				want, count = modelRewrite(l, part, append(slices.Clone(part), by...), nth)
				if len(part) == 0 && nth == 0 {
					want, count = append(slices.Clone(by), l...), 1
				}
				if got, n := wordseq.InsertAfter(l, part, by, nth); !slices.Equal(got, want) || n != count {
					t.Fatal(l, part, by, nth, got, n)
				}
			}
		}
	})
}

// P4.3

func TestOneAtATime(t *testing.T) {
	eachSample(func(l, part []string) {
		for _, by := range [][]string{nil, {"a"}, {"b", "a"}, {"a", "a", "b"}} {
			want, count := wordseq.Replace(l, part, by, 0)
			got := slices.Clone(l)
			for nth := count; nth >= 1; nth-- {
				next, n := wordseq.Replace(got, part, by, nth)
				if n != 1 {
					t.Fatal(l, part, by, nth)
				}
				got = next
			}
			if !slices.Equal(got, want) || count != wordseq.Count(l, part) {
				t.Fatal(l, part, by, got, want)
			}
		}
	})
}

func TestEqual(t *testing.T) {
	for i, c := range []struct {
		a, b []string
		want bool
	}{
		{nil, nil, true}, {nil, []string{}, true}, {[]string{}, nil, true}, {nil, []string{""}, false}, {[]string{"a"}, []string{"a"}, true}, {[]string{"a"}, []string{"b"}, false}, {[]string{"a"}, []string{"A"}, false}, {[]string{"a"}, []string{"a", "b"}, false}, {[]string{"a", "b"}, []string{"a"}, false}, {[]string{"a", "b"}, []string{"b", "a"}, false}, {[]string{"a", "b"}, []string{"a", "b"}, true}, {[]string{"a b"}, []string{"a", "b"}, false}, {[]string{"", "\xff"}, []string{"", "\xff"}, true}, {[]string{"", ""}, []string{""}, false}, {many(300), many(300), true}, {many(300), many(301), false},
	} {
		if wordseq.Equal(c.a, c.b) != c.want || wordseq.Equal(c.b, c.a) != c.want {
			t.Error(i)
		}
	}
}

// TestArgumentsAndResults changes each result, up to its capacity, and looks at the arguments and at another result.
func TestArgumentsAndResults(t *testing.T) {
	backing := words("a b a b c spare spare spare")
	partBacking, byBacking := words("b spare spare"), words("x y spare spare")
	for i, c := range []struct {
		part, by []string
		nth      int
	}{
		{partBacking[:1], byBacking[:2], 0}, {partBacking[:1], byBacking[:2], 1}, {partBacking[:1], byBacking[:2], 9}, {partBacking[:1], byBacking[:2], -1}, {partBacking[:1], nil, 2}, {nil, byBacking[:2], 0}, {nil, byBacking[:2], 1}, {nil, nil, 0}, {partBacking[1:2], byBacking[:2], 0}, {backing[:5], backing[:5], 0},
	} {
		for k, f := range []func(l, part, by []string, nth int) ([]string, int){wordseq.Replace, wordseq.InsertAfter} {
			for _, n := range []int{0, 5} {
				first, _ := f(backing[:n], c.part, c.by, c.nth)
				again := slices.Clone(first)
				first = first[:cap(first)]
				for j := range first {
					first[j] = "changed"
				}
				second, _ := f(backing[:n], c.part, c.by, c.nth)
				if !slices.Equal(second, again) || !slices.Equal(backing, words("a b a b c spare spare spare")) || !slices.Equal(partBacking, words("b spare spare")) || !slices.Equal(byBacking, words("x y spare spare")) {
					t.Fatal(i, k, backing, partBacking, byBacking, second, again)
				}
			}
		}
	}
	found := wordseq.FindAll(backing, []string{"a"})
	clear(found[:cap(found)])
	wordseq.Count(backing, []string{"a"})
	wordseq.Join(backing...)
	wordseq.Valid(backing...)
	wordseq.Equal(backing, backing[:3])
	if again := wordseq.FindAll(backing, []string{"a"}); !slices.Equal(again, []int{0, 2}) || !slices.Equal(backing, words("a b a b c spare spare spare")) {
		t.Error(again, backing)
	}
	l, _ := wordseq.Split("a b")
	l[0] = "changed"
	if again, _ := wordseq.Split("a b"); !slices.Equal(again, words("a b")) {
		t.Error(again)
	}
}
