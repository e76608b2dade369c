package label_test

import (
	"fmt"
	"math/rand"
	"slices"
	"strings"
	"testing"

	"pandect/label"
)

// invalid are strings that are not labels, at every edge of the definition.
var invalid = []string{
	"", " ", "0", "00", "01", "0A", "001", "0001", "01A", "12345", "10000", "10000A", "99999", "123456789012345678901234567890",
	"A", "Z", "AA", "AAA", "A1", "A12", "1a", "1z", "12aB", "12Ab", "1AAAA", "9999ZZZZ", "12ABCD", "1A1", "1A2B", "1-", "-1", "+1", "1.0", "1 ", " 1", "1 A", "1A ", "1\n", "1\x00", "\x001", "1@", "1[", "1A@", "1A[", "1/", "1:", "/1", ":1", "1/A", "1:A", "1_", "0x1", "1e3", "１", "1Ä", "1À", "1\xff", "\xff", "1A\xff", "\xc3A", "12é", "١",
}

// universe is a run of labels, in the order of the document.
type universe struct {
	all     []string
	letters []int // the length of the suffix of each label
	next    [4][]int
}

// newUniverse returns all labels with the numbers from first to last. The order comes from the way in which they are generated: a label, then all that extend it.
func newUniverse(first, last int) *universe {
	u := &universe{}
	var extend func(s string, letters int)
	extend = func(s string, letters int) {
		u.all = append(u.all, s)
		u.letters = append(u.letters, letters)
		if letters == 3 {
			return
		}
		for c := 'A'; c <= 'Z'; c++ {
			extend(s+string(c), letters+1)
		}
	}
	for n := first; n <= last; n++ {
		extend(fmt.Sprint(n), 0)
	}
	for k := range u.next {
		u.next[k] = make([]int, len(u.all)+1)
		u.next[k][len(u.all)] = len(u.all)
		for i := len(u.all) - 1; i >= 0; i-- {
			u.next[k][i] = u.next[k][i+1]
			if u.letters[i] == k {
				u.next[k][i] = i
			}
		}
	}
	return u
}

// between returns the label of the document's definition: of the labels strictly between two positions, those with the shortest suffix, and of them the smallest.
func (u *universe) between(i, j int) (string, bool) {
	for k := range u.next {
		if at := u.next[k][min(i+1, len(u.all))]; at < j {
			return u.all[at], true
		}
	}
	return "", false
}

// successor applies the document's rule letter by letter.
func successor(number int, suffix string) (string, bool) {
	suffix = strings.TrimRight(suffix, "Z")
	if suffix != "" {
		last := len(suffix) - 1
		return fmt.Sprint(number) + suffix[:last] + string(suffix[last]+1), true
	}
	if number == 9999 {
		return "", false
	}
	return fmt.Sprint(number + 1), true
}

// modelValid is the definition of a valid label, by lists of the allowed bytes.
func modelValid(s string) bool {
	letters := strings.TrimLeft(s, "0123456789")
	digits := len(s) - len(letters)
	return digits >= 1 && digits <= 4 && s[0] != '0' && len(letters) <= 3 && strings.Trim(letters, "ABCDEFGHIJKLMNOPQRSTUVWXYZ") == ""
}

// P3.1

func TestValidSplit(t *testing.T) {
	for s, want := range map[string]struct {
		number int
		suffix string
	}{
		"1": {1, ""}, "9": {9, ""}, "10": {10, ""}, "12": {12, ""}, "100": {100, ""}, "1000": {1000, ""}, "9999": {9999, ""}, "12A": {12, "A"}, "12Z": {12, "Z"}, "12AB": {12, "AB"}, "12ZZ": {12, "ZZ"}, "12ABC": {12, "ABC"}, "1AAA": {1, "AAA"}, "9999ZZZ": {9999, "ZZZ"}, "1000A": {1000, "A"}, "2050MNO": {2050, "MNO"},
	} {
		number, suffix := label.Split(s)
		if !label.Valid(s) || number != want.number || suffix != want.suffix {
			t.Error(s, number, suffix)
		}
	}
}

func TestInvalid(t *testing.T) {
	for _, s := range append(slices.Clone(invalid), strings.Repeat("1", 100000), "1"+strings.Repeat("A", 100000)) {
		if number, suffix := label.Split(s); label.Valid(s) || number != 0 || suffix != "" {
			t.Errorf("%.20q: %d %.20q", s, number, suffix)
		}
	}
}

// TestEveryByte replaces, and inserts, every byte at every position of some labels.
func TestEveryByte(t *testing.T) {
	for _, s := range []string{"1", "12", "999", "1234", "1A", "12AB", "123ABC", "9999ZZZ"} {
		for i := range len(s) + 1 {
			for c := range 256 {
				texts := []string{s[:i] + string([]byte{byte(c)}) + s[i:]}
				if i < len(s) {
					texts = append(texts, s[:i]+string([]byte{byte(c)})+s[i+1:])
				}
				for _, text := range texts {
					number, suffix := label.Split(text)
					whole := number != 0 && fmt.Sprint(number)+suffix == text
					if label.Valid(text) != modelValid(text) || whole != modelValid(text) || !whole && (number != 0 || suffix != "") {
						t.Errorf("%q %d %q", text, number, suffix)
					}
				}
			}
		}
	}
}

func TestValidOfEveryNumber(t *testing.T) {
	for n := range 20000 {
		s := fmt.Sprint(n)
		number, suffix := label.Split(s)
		if ok := n >= 1 && n <= 9999; label.Valid(s) != ok || (number == n) != (ok || n == 0) || suffix != "" {
			t.Error(s, number, suffix)
		}
	}
}

// TestCompareOrder compares every pair of a list that is in the order of the document, labels first.
func TestCompareOrder(t *testing.T) {
	ordered := []string{
		"1", "1A", "1AA", "1AAA", "1AAB", "1AAZ", "1AB", "1AZ", "1AZZ", "1B", "1BA", "1Z", "1ZA", "1ZZ", "1ZZA", "1ZZZ", "2", "2A", "9", "9Z", "10", "10A", "11", "12", "12A", "12AA", "12AB", "12B", "13", "99", "99ZZZ", "100", "999", "999A", "1000", "1000A", "9998", "9998ZZZ", "9999", "9999A", "9999ZZ", "9999ZZZ",
		"", "\x00", " 1", "-1", "0", "00", "01", "0A", "10000", "12345", "1A1", "1AAAA", "1a", "5AAAA", "9 ", "99999", "A", "AA", "Z", "a", "\xff",
	}
	for i, a := range ordered {
		for j, b := range ordered {
			want := 0
			if i < j {
				want = -1
			} else if i > j {
				want = 1
			}
			if got := label.Compare(a, b); got != want {
				t.Errorf("%q %q: %d", a, b, got)
			}
		}
	}
	for _, s := range invalid {
		if label.Compare(s, s) != 0 || label.Compare("9999ZZZ", s) != -1 || label.Compare(s, "9999ZZZ") != 1 || label.Compare(s, "1") != 1 {
			t.Errorf("%q", s)
		}
	}
}

// TestCompareUniverse compares neighbors, and labels far from each other, of runs of all labels.
func TestCompareUniverse(t *testing.T) {
	for _, u := range []*universe{newUniverse(1, 2), newUniverse(9, 10), newUniverse(999, 1000), newUniverse(9998, 9999)} {
		for i := range u.all {
			for _, step := range []int{0, 1, 2, 26, 27, 676, 703, 18279} {
				if i+step >= len(u.all) {
					continue
				}
				want := min(step, 1)
				a, b := u.all[i], u.all[i+step]
				if label.Compare(a, b) != -want || label.Compare(b, a) != want {
					t.Fatal(a, b)
				}
			}
		}
	}
}

func TestSort(t *testing.T) {
	for i, c := range []struct{ l, want []string }{
		{nil, nil}, {[]string{}, nil}, {[]string{"1"}, []string{"1"}}, {[]string{""}, []string{""}},
		{[]string{"13", "12B", "12AB", "12AA", "12A", "12"}, []string{"12", "12A", "12AA", "12AB", "12B", "13"}},
		{[]string{"10", "9", "100", "1"}, []string{"1", "9", "10", "100"}},
		{[]string{"2", "x", "1", "", "2", "01", "1", "x"}, []string{"1", "1", "2", "2", "", "01", "x", "x"}},
		{[]string{"b", "a", "", "0"}, []string{"", "0", "a", "b"}},
	} {
		before := slices.Clone(c.l)
		got := label.Sort(c.l...)
		if !slices.Equal(got, c.want) || !slices.Equal(c.l, before) {
			t.Error(i, got, c.l)
		}
		clear(got[:cap(got)])
		if !slices.Equal(c.l, before) {
			t.Error(i, "shared", c.l)
		}
	}
}

func TestSortShuffled(t *testing.T) {
	u := newUniverse(9, 10)
	random := rand.New(rand.NewSource(1))
	for range 20 {
		want := append(slices.Clone(u.all[:40]), u.all[18260:18300]...)
		want = append(want, "", "", "0", "010", "9AAAA", "X")
		l := slices.Clone(want)
		random.Shuffle(len(l), func(i, j int) { l[i], l[j] = l[j], l[i] })
		if got := label.Sort(l...); !slices.Equal(got, want) {
			t.Fatal(l, got)
		}
	}
}

// P3.2

func TestNext(t *testing.T) {
	for s, want := range map[string]string{
		"12A": "12B", "12AZ": "12B", "12Z": "13", "12": "13", "1": "2", "9": "10", "99": "100", "999": "1000", "9998": "9999", "1Z": "2", "1ZZ": "2", "1ZZZ": "2", "9Z": "10", "9998ZZZ": "9999", "12Y": "12Z", "12AA": "12AB", "12AY": "12AZ", "12ZA": "12ZB", "12ZY": "12ZZ", "12YZ": "12Z", "12AAA": "12AAB", "12AAZ": "12AB", "12AZZ": "12B", "12ZAZ": "12ZB", "12YZZ": "12Z", "12ZZA": "12ZZB", "12AZA": "12AZB", "9999A": "9999B", "9999ZZY": "9999ZZZ", "9999YZZ": "9999Z",
	} {
		if got, ok := label.Next(s); got != want || !ok {
			t.Error(s, got, ok)
		}
	}
	for _, s := range append([]string{"9999", "9999Z", "9999ZZ", "9999ZZZ"}, invalid...) {
		if got, ok := label.Next(s); got != "" || ok {
			t.Errorf("%q: %q", s, got)
		}
	}
}

// TestNextUniverse compares Next with the rule, and with P3.4: the successor is the first later label with a suffix that is not longer.
func TestNextUniverse(t *testing.T) {
	for _, u := range []*universe{newUniverse(1, 2), newUniverse(9, 10), newUniverse(9998, 9999)} {
		for i, s := range u.all {
			number, suffix := label.Split(s)
			want, ok := successor(number, suffix)
			got, gotOK := label.Next(s)
			if got != want || gotOK != ok || ok && label.Compare(s, got) != -1 {
				t.Fatal(s, got, want)
			}
			at := len(u.all)
			for k := 0; k <= u.letters[i]; k++ {
				at = min(at, u.next[k][i+1])
			}
			if at < len(u.all) && u.all[at] != got {
				t.Fatal(s, got, u.all[at])
			}
		}
	}
}

func TestNextFree(t *testing.T) {
	for i, c := range []struct {
		l    []string
		s    string
		want string
		ok   bool
	}{
		{nil, "5", "5", true}, {[]string{"4", "6"}, "5", "5", true}, {[]string{"5"}, "5", "6", true}, {[]string{"6", "5"}, "5", "7", true}, {[]string{"5", "5", "5"}, "5", "6", true}, {[]string{"5", "5A", "7"}, "5", "6", true},
		{[]string{"5A"}, "5A", "5B", true}, {[]string{"5Y", "5Z"}, "5Y", "6", true}, {[]string{"5Y", "5Z", "6", "6A"}, "5Y", "7", true}, {[]string{"5AY", "5AZ", "5B"}, "5AY", "5C", true}, {[]string{"5ZZZ"}, "5ZZZ", "6", true},
		{nil, "9999", "9999", true}, {[]string{"9999"}, "9999", "", false}, {[]string{"9998", "9999"}, "9998", "", false}, {[]string{"9999Y", "9999Z"}, "9999Y", "", false}, {[]string{"9999Z"}, "9999Y", "9999Y", true}, {[]string{"9999"}, "9999Y", "9999Y", true}, {[]string{"9999ZZZ"}, "9999ZZZ", "", false},
		{nil, "", "", false}, {nil, "0", "", false}, {[]string{"", "x"}, "", "", false}, {[]string{"", "x", "05"}, "5", "5", true},
	} {
		if got, ok := label.NextFree(c.l, c.s); got != c.want || ok != c.ok {
			t.Error(i, got, ok)
		}
	}
	for _, s := range invalid {
		if got, ok := label.NextFree([]string{"1", s}, s); got != "" || ok {
			t.Errorf("%q: %q", s, got)
		}
	}
}

// TestNextFreeLong walks through a whole sequence.
func TestNextFreeLong(t *testing.T) {
	var l []string
	for s, ok := "1AAA", true; ok; s, ok = label.Next(s) {
		if len(l)%100 == 0 {
			if got, free := label.NextFree(l, "1AAA"); got != s || !free {
				t.Fatal(len(l), got)
			}
		}
		l = append(l, s)
	}
	if len(l) != 26+25+25+9998 {
		t.Error(len(l))
	}
	slices.Reverse(l)
	before := slices.Clone(l)
	if got, ok := label.NextFree(l, "1AAA"); got != "" || ok || !slices.Equal(l, before) {
		t.Error(got, ok)
	}
	if got, ok := label.NextFree(l[1:], "1AAA"); got != "9999" || !ok {
		t.Error(got, ok)
	}
}

// P3.3

func TestBetween(t *testing.T) {
	for i, c := range []struct {
		a, b, want string
		ok         bool
	}{
		{"5", "6", "5A", true}, {"5A", "5B", "5AA", true}, {"5", "7", "6", true}, {"5", "5A", "", false}, {"5", "5B", "5A", true}, {"5", "5AA", "5A", true}, {"5", "5AB", "5A", true}, {"5", "5AAA", "5A", true}, {"5", "5AAB", "5A", true}, {"5A", "5AA", "", false}, {"5A", "5AB", "5AA", true}, {"5AA", "5AAA", "", false}, {"5AA", "5AAB", "5AAA", true}, {"5AA", "5AB", "5AAA", true}, {"5AAA", "5AAB", "", false}, {"5AAA", "5AAC", "5AAB", true}, {"5AAZ", "5AB", "", false}, {"5AAY", "5AB", "5AAZ", true}, {"5AZZ", "5B", "", false}, {"5ZZZ", "6", "", false}, {"5ZZ", "6", "5ZZA", true}, {"5Z", "6", "5ZA", true}, {"5Z", "6A", "6", true}, {"5Y", "6", "5Z", true}, {"5AB", "6", "5B", true}, {"5ZB", "6", "5ZC", true}, {"5ZZA", "6", "5ZZB", true}, {"5ZZZ", "6A", "6", true}, {"5ZZZ", "7", "6", true}, {"5AZ", "5B", "5AZA", true}, {"5AZA", "5B", "5AZB", true}, {"5AYZ", "5B", "5AZ", true},
		{"1", "9999", "2", true}, {"9", "11", "10", true}, {"9", "10", "9A", true}, {"9999", "9999A", "", false}, {"9999", "9999B", "9999A", true}, {"9998", "9999", "9998A", true}, {"9998ZZZ", "9999", "", false}, {"9999ZZ", "9999ZZZ", "9999ZZA", true}, {"9999ZZY", "9999ZZZ", "", false}, {"9999Z", "9999ZZZ", "9999ZA", true}, {"1", "9999ZZZ", "2", true}, {"9998", "9999ZZZ", "9999", true},
		{"5", "5", "", false}, {"5A", "5A", "", false}, {"6", "5", "", false}, {"7", "5", "", false}, {"5B", "5A", "", false}, {"5A", "5", "", false}, {"10", "9", "", false},
	} {
		if got, ok := label.Between(c.a, c.b); got != c.want || ok != c.ok {
			t.Error(i, c.a, c.b, got, ok)
		}
	}
	for _, s := range invalid {
		for _, pair := range [][2]string{{s, "9999"}, {"1", s}, {s, s}, {s, "x"}, {"", s}} {
			if got, ok := label.Between(pair[0], pair[1]); got != "" || ok {
				t.Errorf("%q: %q", pair, got)
			}
		}
	}
}

// samplePositions returns positions of a universe: the labels whose suffixes consist of letters at the ends of the alphabet, and some others.
func samplePositions(u *universe) []int {
	var out []int
	for i, s := range u.all {
		if strings.Trim(s[len(s)-u.letters[i]:], "ABYZ") == "" || i%601 == 0 {
			out = append(out, i)
		}
	}
	return out
}

// TestBetweenUniverse compares Between with the definition, in both orders of its arguments.
func TestBetweenUniverse(t *testing.T) {
	for _, u := range []*universe{newUniverse(1, 3), newUniverse(9, 11), newUniverse(9998, 9999)} {
		sample := samplePositions(u)
		for _, i := range sample {
			for _, j := range sample {
				want, ok := u.between(i, j)
				got, gotOK := label.Between(u.all[i], u.all[j])
				if got != want || gotOK != ok {
					t.Fatal(u.all[i], u.all[j], got, want)
				}
			}
		}
	}
}

// P3.4

func TestOrderConsequences(t *testing.T) {
	u := newUniverse(9, 10)
	for i, s := range u.all {
		next, _ := label.Next(s)
		for _, step := range []int{1, 2, 25, 26, 27, 700} {
			if i+step >= len(u.all) {
				continue
			}
			other := u.all[i+step]
			if got, ok := label.Between(s, other); ok && (label.Compare(s, got) != -1 || label.Compare(got, other) != -1 || !label.Valid(got)) {
				t.Fatal(s, other, got)
			}
			if label.Compare(other, next) < 0 && u.letters[i+step] <= u.letters[i] {
				t.Fatal(s, other, next)
			}
		}
	}
}
