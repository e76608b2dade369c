package syntax_test

import (
	"fmt"
	"math/rand"
	"slices"
	"strings"
	"testing"

	"pandect/api"
	"pandect/syntax"
	"pandect/token"
)

// tokenTexts returns the tokens of a text, each as it is written.
func tokenTexts(t *testing.T, text string) []string {
	t.Helper()
	l, _, errno := token.Scan(text)
	if errno != api.OK {
		t.Fatal(text)
	}
	var out []string
	for _, x := range l {
		out = append(out, token.Format(x))
	}
	return out
}

// bodies returns the texts of all samples without a purpose and a start, and of some with them.
func bodies(t *testing.T) []string {
	t.Helper()
	var l []string
	for i, it := range samples(t) {
		if it.For == "" && (it.Start == api.Start{}) || i%29 == 0 {
			l = append(l, textOf(it))
		}
	}
	return l
}

// pieces returns tokens of all kinds, as they are written: all words of the language, and numbers, labels and quoted strings that are required somewhere, or nowhere.
func pieces() []string {
	l := strings.Fields("into first last insert behind ahead of repeal in for put each at all head as number move commence expire revive act item from day happen on correct read by order event book part section paragraph table row cell note tax a-9 abcdefghijklmnop abcdefghijklmnopq")
	l = append(l, strings.Fields("0 1 4 31 32 256 257 9999 10000 1048576 1048577 999999999999999999999999 5A 0A 1AAAA 10000A ; , : . ( )")...)
	return append(l, `""`, `"a"`, `"a b"`, `" a"`, `"a  b"`, `"5"`, `"all"`, `"é"`, "\"book\n\"", "\"section 5\n\"", `"section 5"`, "\"section 5\n  section 5\n\"", "\"section 05\n\"", quoted(strings.Repeat("a ", 255)+"a"), quoted(strings.Repeat("a ", 256)+"a"))
}

func TestParse(t *testing.T) {
	for s, want := range map[string]string{
		"  repeal  all ":                           "repeal all",
		"\nrepeal\n\nall\n":                        "repeal all",
		"repeal\nsection\n5\nparagraph\n1A":        "repeal section 5 paragraph 1A",
		`in all for"a"put"b"each`:                  `in all for "a" put "b" each`,
		"in all for \"a\"\nput \"\" at 7 by order": `in all for "a" put "" at 7 by order`,
		`head section 5as"a"`:                      "",
		`head section 5 as"a"read for b`:           `head section 5 as "a" read for b`,
	} {
		it, at, errno := syntax.Parse(s)
		text, _ := syntax.Format(it)
		if text != want || (errno == api.OK) != (want != "") || want != "" && at != 0 {
			t.Errorf("%q: %q %d %d", s, text, at, errno)
		}
		checkParse(t, s)
	}
}

// TestRefused parses what is no instruction, with the offset of the error.
func TestRefused(t *testing.T) {
	for s, at := range map[string]int{
		"": 0, " ": 1, "\n\n": 2, "all": 0, "section 5": 0, "5": 0, ";": 0, `"repeal all"`: 0, " words": 1, "insert all": 0, "relabel": 0,
		"repeal": 6, "repeal ": 7, "repeal \n": 8, "repeal repeal": 7, "repeal all all": 11, "repeal all section 5": 11, "repeal all;": 10, "repeal section": 14, "repeal section 5;": 16, "repeal section 05": 15, "repeal section 5 section": 24, "repeal section book": 15, "repeal section 0": 15, "repeal section 10000": 15, "repeal section 1AAAA": 15, `repeal section "5"`: 15, "repeal 5": 7, "repeal chapter 5": 7, "repeal section all": 15,
		"repeal book book": 12, "repeal section 5 book": 17, "repeal book 5": 12, "repeal book section 5 all": 22, "repeal book all": 12, `repeal "all"`: 7,
		"repeal all read": 15, "repeal all for a": 11, "repeal all read a": 16, "repeal all read for": 19, "repeal all read for 5": 20, `repeal all read for "a"`: 20, "repeal all read for abcdefghijklmnopq": 20, "repeal all read for a read": 22, "repeal all by": 13, "repeal all by day": 14, "repeal all by order by order": 20, "repeal all by order read for a": 20,
		"repeal all from": 15, "repeal all from day": 19, "repeal all from 5": 16, "repeal all from day 1048577": 20, "repeal all from day 5A": 20, `repeal all from day "5"`: 20, "repeal all on": 13, "repeal all on day 5": 14, "repeal all on event": 19, "repeal all on event 5": 20, "repeal all on event a b": 22, "repeal all on event abcdefghijklmnopq": 20,
		"into": 4, "into all": 8, "into all insert": 9, "into all first": 14, "into all second": 9, "into all first last": 15, "into all first insert": 21, "into all first insert all": 22, "into first": 5, "behind all first": 11, "behind all": 10, "ahead": 5, "ahead all": 6, "ahead of": 8, "ahead of all into": 13, "behind of all": 7,
		"in": 2, "in all": 6, "in all for": 10, "in all for a": 11, `in all for "a"`: 14, `in all for "a" put`: 18, `in all for "a" put "b"`: 22, `in all for "a" put "b" all`: 23, `in all for "a" put "b" at`: 25, `in all for "a" put "b" at 0`: 26, `in all for "a" put "b" at 257`: 26, `in all for "a" put "b" at each`: 26, `in all for "a" put "b" each at 1`: 28, `in all for "a" put "b" 1`: 23, `in all for "a" put "b" read for a`: 23, `in all for "" put "b" each`: 11, `in all for " " put "b" each`: 11, `in all for "a" put " " each`: 19,
		`in all behind "" put "a" each`: 14, `in all behind "a" put "" each`: 22, `in all behind "a" put "b"`: 25, `in all behind "a" for`: 18, "in all behind all": 14, "in all ahead": 12, "in all ahead of": 15, "in all ahead all": 13, `in all ahead of "a"`: 16, `in all ahead of section 5 put "a"`: 16, "in all ahead of all": 19, `in all ahead of all put`: 23, `in all ahead of all put ""`: 24, `in all ahead of all put "a" each`: 28, `in all ahead of all put "a" at 1`: 28,
		"head": 4, "head all": 8, "head all as": 11, "head all as a": 12, `head all "a"`: 9, `head all as " "`: 12, `head all as "a" "b"`: 16, "number": 6, "number all": 10, "number all as": 13, "number all as all": 14, "number all as 0": 14, "number all as 0A": 14, "number all as 10000": 14, "number all as 1AAAA": 14, `number all as "1"`: 14, "number 5 as 6": 7,
		"move": 4, "move all": 8, "move all all": 9, "move all into": 13, "move all into all": 17, "move all into all each": 18, "move all behind": 15, "move all behind all first": 20, "move all ahead": 14, "move all ahead all": 15, "move all first": 9, "move into all first": 5,
		"commence": 8, "commence 4": 9, "commence act": 12, "commence act 0 from day 1": 13, "commence act 1048577 from day 1": 13, "commence act 4": 14, "commence act 4 day 5": 15, "commence act 4 item": 19, "commence act 4 item 32 from day 1": 20, "commence act 4 item a": 20, "commence act 4 item 1 item": 22, "commence act 4 from": 19, "commence act 4 from day": 23, "commence act 4 from day 1048577": 24, "commence act 4 from day 1 by order": 26, "commence act 4 from day 1 read for a": 26, "commence act 4A from day 1": 13, "commence all": 9, "expire act 4 item 5": 19, "revive act 4 by order": 13,
		"happen": 6, "happen 5": 7, "happen a": 8, "happen a day": 9, "happen a on": 11, "happen a on event": 12, "happen a on day": 15, "happen a on day 1048577": 16, "happen a on day a": 16, "happen a on day 5 by order": 18, "happen abcdefghijklmnopq on day 5": 7, `happen "a" on day 5`: 7,
		"correct": 7, "correct act": 11, "correct act 0": 12, "correct act 4": 13, "correct act 4 as": 14, "correct act 4 item": 18, "correct act 4 item 32": 19, "correct act 4 item 3": 20, "correct act 4 item 3 as": 23, "correct act 4 item 3 repeal all": 21, "correct act 4 item 3 as commence act 4 from day 1": 24, "correct act 4 item 3 as happen a on day 1": 24, "correct act 4 item 3 as correct act 4 item 3 as repeal all": 24, "correct act 4 item 3 as repeal": 30, "correct act 4 item 3 as repeal all all": 35, "correct act 4 item 3 as all": 24,
	} {
		expectRefused(t, s, at)
		expectRefused(t, s+strings.Repeat(" ", len(s)-at)+"\n;", map[bool]int{true: at, false: 2*len(s) - at + 1}[at < len(s)])
	}
}

// TestSteps counts the steps of addresses.
func TestSteps(t *testing.T) {
	steps := func(n int) string { return strings.Repeat(" row 1", n) }
	for n := range 10 {
		if n > 0 {
			checkParse(t, "repeal"+steps(n))
			checkParse(t, "move"+steps(n)+" behind"+steps(10-n))
		}
		if n < 9 && checkParse(t, "repeal book"+steps(n)) != api.OK {
			t.Error(n)
		}
	}
	expectRefused(t, "repeal"+steps(10), 6+9*6+1)
	expectRefused(t, "repeal"+steps(11), 6+9*6+1)
	expectRefused(t, "repeal book"+steps(9), 11+8*6+1)
	expectRefused(t, "move all behind"+steps(10), 15+9*6+1)
	expectRefused(t, "into"+steps(9)+" row first", 4+9*6+1)
}

// TestBeginnings parses every beginning of the texts of the samples, and of their tokens.
func TestBeginnings(t *testing.T) {
	for _, text := range bodies(t) {
		if len(text) > 400 {
			t.Error(len(text))
		}
		for n := range len(text) {
			checkParse(t, text[:n])
		}
		l := tokenTexts(t, text)
		for n := range l {
			s := strings.Join(l[:n], " ")
			if _, at, errno := syntax.Parse(s); errno == api.ErrForm && at != len(s) {
				t.Errorf("%q: %d", s, at)
			}
		}
	}
}

// TestChangedTokens leaves out every token of the texts of the samples, puts every piece in its place and every third one in front of it, and exchanges every two neighbors.
func TestChangedTokens(t *testing.T) {
	t.Parallel()
	all, accepted := pieces(), 0
	check := func(l []string) {
		if checkParse(t, strings.Join(l, " ")) == api.OK {
			accepted++
		}
	}
	for _, text := range bodies(t) {
		l := tokenTexts(t, text)
		for i := range len(l) + 1 {
			for j := i % 3; j < len(all); j += 3 {
				check(slices.Insert(slices.Clone(l), i, all[j]))
			}
			if i == len(l) {
				continue
			}
			check(slices.Delete(slices.Clone(l), i, i+1))
			for _, piece := range all {
				other := slices.Clone(l)
				other[i] = piece
				check(other)
			}
			if i > 0 {
				other := slices.Clone(l)
				other[i], other[i-1] = other[i-1], other[i]
				check(other)
			}
		}
	}
	if accepted < 1000 {
		t.Error(accepted)
	}
}

// TestRandomTokens extends beginnings at random, mostly by a token that can stand there.
func TestRandomTokens(t *testing.T) {
	t.Parallel()
	r := rand.New(rand.NewSource(173))
	all, accepted := pieces(), 0
	for range 600 {
		var l []string
		for len(l) < 40 {
			next := append(slices.Clone(l), all[r.Intn(len(all))])
			s := strings.Join(next, " ")
			_, at, errno := syntax.Parse(s)
			if errno == api.OK {
				accepted++
				checkParse(t, s)
			}
			if errno == api.OK || at == len(s) {
				l = next
				continue
			}
			checkParse(t, s)
			if r.Intn(200) == 0 {
				break
			}
		}
	}
	if accepted < 200 {
		t.Error(accepted)
	}
}

// TestNumbers exchanges every number of the texts of the samples.
func TestNumbers(t *testing.T) {
	t.Parallel()
	numbers := []string{"0", "1", "2", "30", "31", "32", "33", "255", "256", "257", "258", "9999", "10000", "1048575", "1048576", "1048577", "2147483648", "4294967297", "9223372036854775808", "18446744073709551617", strings.Repeat("9", 24), strings.Repeat("9", 25), "00", "01", "0A", "1A", "-1"}
	for _, text := range bodies(t) {
		l := tokenTexts(t, text)
		for i, piece := range l {
			if kind := token.KindOf(piece); kind != api.TokenNumber && kind != api.TokenLabel {
				continue
			}
			for _, n := range numbers {
				other := slices.Clone(l)
				other[i] = n
				checkParse(t, strings.Join(other, " "))
			}
		}
	}
	for _, c := range []struct {
		form     string
		from, to int
	}{
		{"commence act %d from day 5", 1, 1 << 20}, {"expire act %d from day 5", 1, 1 << 20}, {"revive act %d from day 5", 1, 1 << 20}, {"correct act %d item 0 as repeal all", 1, 1 << 20},
		{"commence act 1 item %d from day 5", 0, 31}, {"expire act 1 item %d from day 5", 0, 31}, {"revive act 1 item %d from day 5", 0, 31}, {"correct act 1 item %d as repeal all", 0, 31},
		{"commence act 1 from day %d", 0, 1 << 20}, {"expire act 1 from day %d", 0, 1 << 20}, {"revive act 1 from day %d", 0, 1 << 20}, {"happen a on day %d", 0, 1 << 20}, {"repeal all from day %d", 0, 1 << 20},
		{`in all for "a" put "b" at %d`, 1, 256}, {`in all behind "a" put "b" at %d`, 1, 256}, {"number all as %d", 1, 9999}, {"repeal note %d", 1, 9999},
	} {
		for _, n := range []int{c.from, c.from + 1, c.to - 1, c.to} {
			if it, at, errno := syntax.Parse(fmt.Sprintf(c.form, n)); errno != api.OK || at != 0 || textOf(it) != fmt.Sprintf(c.form, n) {
				t.Error(c.form, n, at, errno)
			}
		}
		for _, n := range []string{fmt.Sprint(c.to + 1), "4294967297", "9223372036854775808", "18446744073709551617", strings.Repeat("9", 24)} {
			expectRefused(t, strings.Replace(c.form, "%d", n, 1), strings.Index(c.form, "%d"))
		}
		if c.from == 1 {
			expectRefused(t, fmt.Sprintf(c.form, 0), strings.Index(c.form, "%d"))
		}
		expectRefused(t, strings.Replace(c.form, "%d", "-1", 1), strings.Index(c.form, "%d")) // token.Scan
	}
}

// TestQuotes puts strings that are required, and others, at every place of a quoted string.
func TestQuotes(t *testing.T) {
	long, _ := syntax.Format(api.Item{Unit: longUnit(t, maxText-100, 0)})
	texts := map[string][3]bool{ // as the text of a unit, a word sequence, and one that is not empty
		"": {false, true, false}, "a": {false, true, true}, `a " \ |`: {false, true, true}, " ": {}, "a ": {}, " a": {}, "a  b": {}, "a\nb": {}, "\n": {}, "é": {}, "\x00": {}, strings.Repeat("a", 24): {false, true, true}, strings.Repeat("a", 25): {},
		strings.Repeat("a ", 255) + "a": {false, true, true}, strings.Repeat("a ", 256) + "a": {},
		"section 5\n": {true, false, false}, "note 1: a | b\n": {true, false, false}, "part 1\n  section 5\n": {true, false, false}, "paragraph 1\n  paragraph 1 | \\\\\n": {true, false, false},
		"section 5": {false, true, true}, "book\n": {}, "book\n  section 5\n": {}, "book": {false, true, true}, "section 5\n\n": {}, "section 5\nsection 6\n": {}, " section 5\n": {}, "  section 5\n": {}, "section 05\n": {}, "section  5\n": {}, "section 5 \n": {}, "chapter 5\n": {}, "section 5\n  row 1\n": {}, "section 5\n  note 1\n  note 1\n": {}, "row 1\n  cell 1\n    note 1\n": {},
	}
	for text, good := range texts {
		for s, want := range map[string]bool{
			"into all first insert %s": good[0], "into all last insert %s by order": good[0], "behind all insert %s": good[0], "ahead of all insert %s": good[0], "correct act 1 item 1 as behind all insert %s": good[0],
			`in all for %s put "a" each`: good[2], `in all for "a" put %s each`: good[1], `in all behind %s put "a" at 1`: good[2], `in all behind "a" put %s at 2`: good[2], "in all ahead of all put %s": good[2], "head all as %s": good[1], "head all as %s read for a": good[1],
			"repeal %s": false, "number all as %s": false, "happen %s on day 1": false, "repeal section %s": false, "repeal all read for %s": false, "repeal all on event %s": false, "repeal all from day %s": false, "move all %s": false, "%s": false,
		} {
			full := strings.Replace(s, "%s", quoted(text), 1)
			if !want {
				expectRefused(t, full, strings.Index(s, "%s"))
				continue
			}
			if it, at, errno := syntax.Parse(full); errno != api.OK || at != 0 || textOf(it) != full {
				t.Error(full, at, errno)
			}
			checkParse(t, full)
		}
	}
	if checkParse(t, long) != api.OK {
		t.Error("long")
	}
}

// TestBehind puts further tokens behind the texts of all samples.
func TestBehind(t *testing.T) {
	for _, it := range samples(t) {
		text := textOf(it)
		for _, more := range []string{";", ".", "5", "5A", `""`, "all", "section", "a", "repeal all", "first", "each", ") 5"} {
			if it.Kind == api.Correct {
				it = it.By[0]
			}
			follows := more == "section" && it.Kind == api.Repeal && it.For == "" && it.Start == api.Start{} && len(it.At) > 0 || more == "section" && it.Kind == api.Move && it.For == "" && it.Start == api.Start{} && it.Where >= api.After
			if !follows {
				expectRefused(t, text+" "+more, len(text)+1)
				expectRefused(t, text+"\n "+more+" ", len(text)+2)
			}
		}
	}
}

// TestBlanks puts more blanks between the tokens of all samples, around them, and inside them.
func TestBlanks(t *testing.T) {
	t.Parallel()
	r := rand.New(rand.NewSource(17))
	blanks := func() string { return strings.Repeat(" ", r.Intn(3)) + strings.Repeat("\n", r.Intn(3)) }
	for _, it := range samples(t) {
		text := checkItem(t, it)
		l := tokenTexts(t, text)
		if strings.Join(l, " ") != text {
			t.Error(text)
		}
		for _, s := range []string{strings.Join(l, "\n"), strings.Join(l, "  "), " " + text, "\n" + text, text + " ", text + "\n", "\n \n" + strings.Join(l, " \n ") + "\n \n"} {
			back, at, errno := syntax.Parse(s)
			if again, _ := syntax.Format(back); errno != api.OK || at != 0 || again != text || !same(back, it) {
				t.Errorf("%q: %q %d %d", s, again, at, errno)
			}
		}
		for i := range l {
			s, offset := blanks(), 0
			for j, piece := range l {
				if i == j {
					offset = len(s)
					piece = "? " + piece
				}
				s += piece + " " + blanks()
			}
			if _, at, errno := syntax.Parse(s); errno != api.ErrForm || at != offset {
				t.Errorf("%q: %d %d, want %d", s, at, errno, offset)
			}
			checkParse(t, strings.Replace(s, "? ", "", 1))
			checkParse(t, strings.Replace(s, "?", ";", 1))
		}
	}
	for _, text := range bodies(t) {
		for i := range len(text) + 1 {
			for _, blank := range []string{" ", "\n", "\t"} {
				checkParse(t, text[:i]+blank+text[i:])
			}
		}
	}
}

// TestParseErrorOrder parses texts with two errors, of which the first one counts.
func TestParseErrorOrder(t *testing.T) {
	pad := func(s string, n int) string { return s + strings.Repeat(" ", n-len(s)) }
	for _, c := range []struct {
		s     string
		at    int
		errno api.Errno
	}{
		{pad("repeal all", maxText), 0, api.OK},
		{pad("repeal all", maxText+1), 0, api.ErrFull},
		{pad("repeal all ?", maxText), 11, api.ErrForm},
		{pad("repeal all ?", maxText+1), 0, api.ErrFull},   // before the error of token.Scan
		{pad("repeal all all", maxText+1), 0, api.ErrFull}, // before a token that is refused
		{pad("repeal", maxText), maxText, api.ErrForm},
		{pad("repeal", maxText+1), 0, api.ErrFull}, // before the end
		{"all ?", 4, api.ErrForm},                  // token.Scan before a token that is refused
		{"repeal section 0 05", 17, api.ErrForm},
		{`repeal "`, 7, api.ErrForm},
		{`in all for "" put "a`, 18, api.ErrForm},
		{"repeal ?", 7, api.ErrForm}, // token.Scan before the end
		{"repeal section 5a", 16, api.ErrForm},
		{"all all", 0, api.ErrForm}, // the first of two tokens
		{"repeal section 0 section", 15, api.ErrForm},
	} {
		it, at, errno := syntax.Parse(c.s)
		if at != c.at || errno != c.errno || errno != api.OK && !isZero(it) {
			t.Errorf("%.40q: %d %d, want %d %d", c.s, at, errno, c.at, c.errno)
		}
		checkParse(t, c.s)
	}
}

// TestTouchingTokens parses texts without the spaces that no token needs, up to the greatest length, at which the text itself is longer.
func TestTouchingTokens(t *testing.T) {
	it := longItem(t, maxText+3)
	text := textOf(it)
	touching := strings.Replace(strings.Replace(text, ` put `, `put`, 1), `" each`, `"each`, 1)
	back, at, errno := syntax.Parse(touching)
	if len(text) <= maxText || len(touching) > maxText || at != 0 || errno != api.OK || !same(back, it) {
		t.Error(len(text), len(touching), at, errno)
	}
	if _, errno := syntax.Format(back); errno != api.ErrFull {
		t.Error(errno)
	}
}

// P17.3

// TestRandomItems formats and parses random instructions.
func TestRandomItems(t *testing.T) {
	t.Parallel()
	r := rand.New(rand.NewSource(18))
	l := plainSamples(t)
	for range 20000 {
		it := copyOf(l[r.Intn(len(l))])
		if it.Kind <= api.Move {
			it.At = randomAddress(r)
			it.For = []string{"", randomName(r)}[r.Intn(2)]
			it.Start = starts()[r.Intn(len(starts()))]
		}
		switch it.Kind {
		case api.ReplaceWords, api.InsertWords:
			it.Old, it.New, it.Nth = randomWords(r, 1), randomWords(r, 1), r.Intn(257)
		case api.Heading:
			it.New = randomWords(r, 0)
		case api.Move:
			it.To = randomAddress(r)
		case api.Insert:
			it.Unit.Words = marked(strings.Join(randomWords(r, 0), " "))
		case api.Commence, api.Expire, api.Revive:
			it.Act, it.Item, it.Day = 1+r.Intn(1<<20), r.Intn(33)-1, r.Intn(1<<20+1)
		case api.DeclareEvent:
			it.Event = randomName(r)
		}
		if it.Kind <= api.Move && r.Intn(3) == 0 {
			it = api.Item{Kind: api.Correct, Act: 1 + r.Intn(1<<20), Item: r.Intn(32), By: []api.Item{it}}
		}
		text := checkItem(t, it)
		if text == "" {
			t.Fatal(it)
		}
		s := strings.Join(tokenTexts(t, text), []string{" ", "\n", "  ", " \n"}[r.Intn(4)])
		back, at, errno := syntax.Parse(s)
		if again, e := syntax.Format(back); errno != api.OK || at != 0 || again != text || e != api.OK || !syntax.Equal(back, it) {
			t.Fatal(s, again)
		}
	}
}

// randomBytes returns a string of some bytes of the alphabet.
func randomBytes(r *rand.Rand, alphabet string, least, most int) string {
	b := make([]byte, least+r.Intn(most-least+1))
	for i := range b {
		b[i] = alphabet[r.Intn(len(alphabet))]
	}
	return string(b)
}

// randomName returns a name.
func randomName(r *rand.Rand) string {
	return randomBytes(r, "afrz", 1, 1) + randomBytes(r, "az09-", 0, 15)
}

// randomWords returns a valid word sequence.
func randomWords(r *rand.Rand, least int) []string {
	var l []string
	for range least + r.Intn(4) {
		l = append(l, randomBytes(r, `aZ"\|!~;^5`, 1, 24))
	}
	return l
}

// randomAddress returns a valid address.
func randomAddress(r *rand.Rand) []api.Step {
	var p []api.Step
	for range r.Intn(9) {
		p = append(p, api.Step{Kind: 1 + r.Intn(7), Label: randomBytes(r, "19", 1, 1) + randomBytes(r, "019", 0, 3) + randomBytes(r, "AZ", 0, 3)})
	}
	if r.Intn(3) == 0 {
		p = slices.Insert(p, 0, api.Step{})
	}
	return p
}

// FuzzParse compares Parse with the model.
func FuzzParse(f *testing.F) {
	for _, it := range samples(f) {
		f.Add(textOf(it))
	}
	f.Fuzz(func(t *testing.T, s string) { checkParse(t, s) })
}
