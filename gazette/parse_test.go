package gazette_test

import (
	"math/rand"
	"slices"
	"strconv"
	"strings"
	"testing"

	"pandect/act"
	"pandect/api"
	"pandect/gazette"
	"pandect/token"
)

// The model of Parse: it divides a text into clauses and reads the first one with both alternatives at once.

// clause is a clause of a text: its tokens, the offsets at which it starts and ends, and whether a semicolon follows.
type clause struct {
	tokens     []api.Token
	start, end int
	ended      bool
}

// clauses divides a text into its clauses. The last one has no semicolon.
func clauses(s string, tokens []api.Token) []clause {
	var out []clause
	for {
		c := clause{end: len(s)}
		size := slices.IndexFunc(tokens, func(t api.Token) bool { return t.Kind == api.TokenSign && t.Text == ";" })
		c.ended = size >= 0
		if c.ended {
			c.end = tokens[size].At
		} else {
			size = len(tokens)
		}
		c.tokens, c.start = tokens[:size], c.end
		if size > 0 {
			c.start = tokens[0].At
		}
		out = append(out, c)
		if !c.ended {
			return out
		}
		tokens = tokens[size+1:]
	}
}

// beginsAct reports whether the first token of the clause is the word act.
func (c clause) beginsAct() bool {
	return len(c.tokens) > 0 && c.tokens[0].Kind == api.TokenWord && c.tokens[0].Text == "act"
}

// grammars contains the predicates of the tokens of the first clause, for each alternative.
func grammars() [][]func(t api.Token) bool {
	word := func(s string) func(t api.Token) bool {
		return func(t api.Token) bool { return t.Kind == api.TokenWord && t.Text == s }
	}
	number := func(least int64) func(t api.Token) bool {
		return func(t api.Token) bool {
			n, err := strconv.ParseInt(t.Text, 10, 32)
			return t.Kind == api.TokenNumber && err == nil && n >= least && n <= 1<<20
		}
	}
	prior := func(t api.Token) bool { return t.Kind == api.TokenQuote && digestForm.MatchString(t.Text) }
	start := []func(t api.Token) bool{word("gazette"), number(1), word("day"), number(0)}
	return [][]func(t api.Token) bool{
		slices.Concat(start, []func(t api.Token) bool{word("first")}),
		slices.Concat(start, []func(t api.Token) bool{word("behind"), prior}),
	}
}

// refusal returns the offset of the first error in the first clause, or false if there is none.
func (c clause) refusal(length int) (int, bool) {
	reach := 0
	for _, l := range grammars() {
		i := 0
		for i < len(l) && i < len(c.tokens) && l[i](c.tokens[i]) {
			i++
		}
		if i == len(l) && i == len(c.tokens) {
			return length, !c.ended
		}
		reach = max(reach, i)
	}
	if reach < len(c.tokens) {
		return c.tokens[reach].At, true
	}
	return c.end, true
}

// refusal returns the offset and the error that Parse returns.
func refusal(s string) (int, api.Errno) {
	if len(s) > maxText {
		return 0, api.ErrFull
	}
	tokens, at, errno := token.Scan(s)
	if errno != api.OK {
		return at, errno
	}
	l := clauses(s, tokens)
	if at, refused := l[0].refusal(len(s)); refused {
		return at, api.ErrForm
	}
	l = l[1:]
	if last := l[len(l)-1]; len(last.tokens) == 0 {
		l = l[:len(l)-1]
	}
	if len(l) > 0 && !l[0].beginsAct() {
		return l[0].start, api.ErrForm
	}
	for n := 1; len(l) > 0; n++ {
		start, end := l[0].start, len(s)
		l = l[1:]
		for len(l) > 0 && !l[0].beginsAct() {
			l = l[1:]
		}
		if len(l) > 0 {
			end = l[0].start
		}
		if n == 17 {
			return start, api.ErrFull
		}
		if _, at, errno := act.Parse(s[start:end]); errno != api.OK {
			return start + at, errno
		}
	}
	return 0, api.OK
}

// canonical returns the text with the spaces and line feeds of the text of a gazette.
func canonical(s string) string {
	tokens, _, _ := token.Scan(s)
	out := ""
	for _, t := range tokens {
		if t.Kind == api.TokenSign && t.Text == ";" {
			out = strings.TrimSuffix(out, " ") + ";\n"
		} else {
			out += token.Format(t) + " "
		}
	}
	return out
}

// checkParse compares Parse with the model. It returns the error.
func checkParse(t *testing.T, s string) api.Errno {
	t.Helper()
	at, errno := refusal(s)
	g, gotAt, e := gazette.Parse(s)
	if gotAt != at || e != errno {
		t.Fatalf("Parse(%q): %d %d, want %d %d", s, gotAt, e, at, errno)
	}
	if errno != api.OK {
		if !same(g, api.Gazette{}) {
			t.Fatalf("Parse(%q): %v", s, g)
		}
		return errno
	}
	text, e := textOf(g)
	if want := canonical(s); !isValid(g) || len(want) <= maxText && text != want || len(want) > maxText && e != api.ErrFull {
		t.Fatalf("Parse(%q): %v", s, g)
	}
	return errno
}

// expectError expects an error and its offset.
func expectError(t *testing.T, s string, at int, errno api.Errno) {
	t.Helper()
	g, got, e := gazette.Parse(s)
	if got != at || e != errno || !same(g, api.Gazette{}) {
		t.Errorf("Parse(%.99q): %v %d %d, want %d %d", s, g, got, e, at, errno)
	}
	checkParse(t, s)
}

// expectRefused expects the offset of an ErrForm.
func expectRefused(t *testing.T, s string, at int) {
	t.Helper()
	expectError(t, s, at, api.ErrForm)
}

// expectOK expects that there is no error.
func expectOK(t *testing.T, s string) {
	t.Helper()
	if checkParse(t, s) != api.OK {
		t.Errorf("%.99q", s)
	}
}

const (
	first  = `gazette 1 day 40 first`
	behind = `gazette 2 day 40 behind "0123456789abcdef"`
	oneAct = `act 4 "Fish Act" day 36 by order; repeal section 3;`
)

// The first clause

// TestHeads parses first clauses that are not as they must be.
func TestHeads(t *testing.T) {
	for s, at := range map[string]int{
		"": 0, " ": 1, "\n \n": 3, ";": 0, " ;": 1, "; ;": 0, "act": 0, oneAct: 0, "4": 0, "gazette": 7, "gazette;": 7, "gazette ;": 8, "gazettes 4": 0, `"gazette"`: 0, "(": 0,
		"gazette 0;": 8, "gazette 1": 9, "gazette 1 ": 10, "gazette 1048577 day": 8, "gazette 1A;": 8, "gazette a;": 8, `gazette "1";`: 8, "gazette 999999999999999999999999;": 8, "gazette 18446744073709551617;": 8, "gazette 1;": 9, "gazette day;": 8, "gazette gazette;": 8,
		"gazette 1 2;": 10, "gazette 1 days;": 10, `gazette 1 "day";`: 10, "gazette 1 day;": 13, "gazette 1 day": 13, "gazette 1 day a;": 14, "gazette 1 day 1048577;": 14, "gazette 1 day 5A;": 14, `gazette 1 day "5";`: 14, "gazette 1 day 999999999999999999999999;": 14, "gazette 1 day 18446744073709551616;": 14, "gazette 1 day day;": 14,
		"gazette 1 day 5;": 15, "gazette 1 day 5 ": 16, "gazette 1 day 5 6;": 16, "gazette 1 day 5 second;": 16, "gazette 1 day 5 day;": 16, `gazette 1 day 5 "first";`: 16, `gazette 1 day 5 "behind" "0123456789abcdef";`: 16, `gazette 1 day 5 "0123456789abcdef";`: 16, "gazette 1 day 5 act;": 16, "gazette 1 day 5, first;": 15,
		"gazette 1 day 5 first": 21, "gazette 1 day 5 first \n": 23, "gazette 1 day 5 first first;": 22, "gazette 1 day 5 first 5;": 22, "gazette 1 day 5 first act;": 22, "gazette 1 day 5 first " + oneAct: 22, "gazette 1 day 5 first behind;": 22, `gazette 1 day 5 first "0123456789abcdef";`: 22, "gazette 1 day 5 first, act": 21, "gazette 1 day 5 first: ;": 21,
		"gazette 1 day 5 behind;": 22, "gazette 1 day 5 behind": 22, "gazette 1 day 5 behind ": 23, "gazette 1 day 5 behind first;": 23, "gazette 1 day 5 behind 1234567890123456;": 23, "gazette 1 day 5 behind a123456789abcdef;": 23, "gazette 1 day 5 behind behind;": 23,
		`gazette 1 day 5 behind "";`: 23, `gazette 1 day 5 behind "0123456789abcde";`: 23, `gazette 1 day 5 behind "0123456789abcdef0";`: 23, `gazette 1 day 5 behind "0123456789ABCDEF";`: 23, `gazette 1 day 5 behind "0123456789abcdeg";`: 23, `gazette 1 day 5 behind " 123456789abcdef";`: 23, `gazette 1 day 5 behind "\"123456789abcdef";`: 23,
		`gazette 1 day 5 behind "0123456789abcdef"`: 41, `gazette 1 day 5 behind "0123456789abcdef" `: 42, `gazette 1 day 5 behind "0123456789abcdef" "0123456789abcdef";`: 42, `gazette 1 day 5 behind "0123456789abcdef" first;`: 42, `gazette 1 day 5 behind "0123456789abcdef" ` + oneAct: 42, `gazette 1 day 5 behind "0123456789abcdef".;`: 41,
	} {
		expectRefused(t, s, at)
		if at < len(s) { // what follows does not matter
			expectRefused(t, s+" 5; act act; act 4", at)
		}
		for range 2 { // nor do blanks in front
			s = "\n " + s
			at += 2
			expectRefused(t, s, at)
		}
	}
}

// TestHeadTokens leaves out each token of first clauses, doubles it, puts others in its place and in front of it, and exchanges every two tokens.
func TestHeadTokens(t *testing.T) {
	pieces := append(strings.Fields("gazette day first behind act by order repeal a 0 1 40 1048576 1048577 999999999999999999999999 5A ; , : . ( )"), `"0123456789abcdef"`, `"fedcba9876543210"`, `""`, `"0123456789abcde"`, `"0123456789abcdef0"`, `"0123456789ABCDEF"`, `"0123456789abcdeg"`, `"0123456789abcd`+"\u00e9"+`"`, `"first"`)
	for _, head := range []string{first, behind} {
		l := strings.Split(head+" ; act 4 \"Fish\" day 36 by order ; repeal all ;", " ")
		check := func(l []string) {
			checkParse(t, strings.Join(l, " "))
			checkParse(t, strings.Join(l, "\n \n"))
		}
		check(l)
		for i := range l {
			check(l[:i])
			check(slices.Delete(slices.Clone(l), i, i+1))
			check(slices.Insert(slices.Clone(l), i, l[i]))
			for _, piece := range pieces {
				check(slices.Insert(slices.Clone(l), i, piece))
				other := slices.Clone(l)
				other[i] = piece
				check(other)
			}
			for j := range i {
				other := slices.Clone(l)
				other[i], other[j] = other[j], other[i]
				check(other)
			}
		}
	}
}

// TestHeadNumbers parses numbers at their bounds, and far beyond.
func TestHeadNumbers(t *testing.T) {
	for s, c := range map[string]struct{ number, day bool }{
		"0": {day: true}, "1": {true, true}, "2": {true, true}, "1048575": {true, true}, "1048576": {true, true},
		"1048577": {}, "2097152": {}, "9999999": {}, "4294967297": {}, "9223372036854775807": {}, "9223372036854775808": {}, "18446744073709551616": {}, "18446744073709551617": {}, "999999999999999999999999": {},
	} {
		text := "gazette " + s + " day 40 first;"
		if c.number {
			g, _, _ := gazette.Parse(text)
			expectOK(t, text)
			if strconv.Itoa(g.Number) != s {
				t.Error(s, g)
			}
		} else {
			expectRefused(t, text, 8)
		}
		text = "gazette 1 day " + s + " first;"
		if c.day {
			g, _, _ := gazette.Parse(text)
			expectOK(t, text)
			if strconv.Itoa(g.Day) != s {
				t.Error(s, g)
			}
		} else {
			expectRefused(t, text, 14)
		}
	}
}

// The acts

// TestSemicolons leaves out semicolons and puts in further ones, and begins the second clause with other tokens.
func TestSemicolons(t *testing.T) {
	for _, head := range []string{first, behind} {
		n := len(head)
		for s, at := range map[string]int{
			"": 0, " ": 1, "\n\n": 2, " " + oneAct: 1, // none behind the first clause
			";;": 1, "; ;": 2, ";; ": 1, ";\n ;" + oneAct: 3, ";;" + oneAct: 1, "; ;;" + oneAct: 2, // one too many
			"; repeal all;": 2, ";repeal all": 1, "; 5": 2, "; \n;": 3, ";acts 4": 1, `;"act" 4`: 1, ";Act": -1, "; gazette 2 day 5 first;": 2, ";first": 1, ";(act": 1, "; " + head + "; " + oneAct: 2, ";day act": 1,
			";" + oneAct + ";": 1 + len(oneAct), ";" + oneAct + " ;": 2 + len(oneAct), ";" + oneAct + "; ": 1 + len(oneAct), ";" + oneAct + ";" + oneAct: 1 + len(oneAct), ";" + oneAct + "\n;\n" + oneAct: 2 + len(oneAct), // one too many behind an act
			";" + oneAct[:len(oneAct)-1]: len(oneAct), ";" + oneAct[:len(oneAct)-1] + " ": 1 + len(oneAct), ";" + oneAct[:len(oneAct)-1] + " \n" + oneAct: 2 + len(oneAct), // none behind an act
			"; act": 5, "; act;": 5, ";act ;": 5, "; act act": 6, "; act 4;": 7, ";act act 4": 5, ";act;" + oneAct: 4, ";" + oneAct + "act": 4 + len(oneAct), ";" + oneAct + " act;": 5 + len(oneAct), ";" + oneAct + " act 0;": 6 + len(oneAct),
		} {
			if at >= 0 {
				at += n
			} else {
				at = n + 1 // a capital letter
			}
			expectRefused(t, head+s, at)
		}
		for _, s := range []string{";", "; ", ";\n\n", " ;", "\n ; ", ";" + oneAct, "; " + oneAct + "\n", ";\n" + oneAct + oneAct, "\n;\n" + oneAct + "\n \n" + oneAct + " ", ";" + strings.ReplaceAll(oneAct, ";", "\n ;\n ")} {
			expectOK(t, head+s)
		}
	}
}

// sections are texts of acts that do not end before the first token of a further one.
var sections = []string{
	"act 1 \"a\" day 0 by order;\n",
	"act 4 \"Fish \\\" ; act 5\" day 36 by order; repeal section 3;\n",
	"act 20 \"; act\" day 0 on event act; happen act on day 8; in all for \"; act 1\" put \"act ;\" each read for act on event act; ",
	"act 1048576 \"act\" day 1048576 from day 1;repeal all;repeal all;",
	"act 9 \"x\" day 7 by order ; correct act 4 item 2 as head section 5 as \";\" ; expire act 9 from day 9;\n\n",
}

// TestSections parses acts that are the first, a middle and the last one, whose clauses begin with other words than act.
func TestSections(t *testing.T) {
	for _, head := range []string{first, behind} {
		for n := range len(sections)*2 + 1 {
			s := head + ";\n"
			var want []api.Act
			for i := range n {
				section := sections[(i*3+n)%len(sections)]
				s += section
				want = append(want, parseAct(t, section))
			}
			g, at, errno := gazette.Parse(s)
			if at != 0 || errno != api.OK || !same(g.Acts, want) {
				t.Fatalf("%q: %v %d %d", s, g, at, errno)
			}
			checkParse(t, s)
		}
	}
}

// TestClausesThatBeginWithAct puts clauses that begin with the word act between the instructions of acts.
func TestClausesThatBeginWithAct(t *testing.T) {
	start := first + "; "
	for i, section := range sections {
		head := start + strings.Join(sections[:i], "")
		rest := strings.Join(sections[i+1:], "")
		for s, at := range map[string]int{
			"act": 3, "act;": 3, "act 4;": 5, "act repeal all;": 4, "act 4 item 2 from day 9;": 6, `act "Fish" day 36 by order;`: 4, "act act 4": 4, "act commence act 4 from day 9;": 4, "act 4 \"b\" day 36 by order repeal all;": 26, `act 4 "b" day 36 by order; commence 4;`: 36, `act 4 "b" day 36 by order; repeal all; act 5;`: 44,
		} {
			if strings.HasSuffix(s, ";") || rest == "" {
				expectRefused(t, head+section+s+rest, len(head+section)+at)
			}
		}
		g, _, errno := gazette.Parse(head + section + "act 77 \"b\" day 36 by order; repeal section 8;" + rest)
		if errno != api.OK || len(g.Acts) != len(sections)+1 || g.Acts[i+1].Number != 77 || len(g.Acts[i+1].Items) != 1 {
			t.Error(i, errno, g)
		}
	}
}

// TestEverySectionRefused puts an act with an error at each place among others.
func TestEverySectionRefused(t *testing.T) {
	const good = "act 4 \"; act\" day 36 by order; repeal all;\n"
	for _, c := range []struct {
		bad   string
		at    int
		errno api.Errno
	}{
		{"act 0 \"a\" day 36 by order;\n", 4, api.ErrForm},
		{"act 1 \"a  b\" day 36 by order;\n", 6, api.ErrForm},
		{"act 1 \"a\" day 1048577 by order;\n", 14, api.ErrForm},
		{"act 1 \"a\" day 36 by;\n", 19, api.ErrForm},
		{"act 1 \"a\" day 36 by order; \n;", 28, api.ErrForm},
		{"act 1 \"a\" day 36 by order; ; repeal all;", 27, api.ErrForm},
		{"act 1 \"a\" day 36 by order; repeal;\n", 33, api.ErrForm},
		{"act 1 \"a\" day 36 by order; repeal all; repeal all all;\n", 50, api.ErrForm},
		{"act 1 \"a\" day 36 by order; commence act 4;\n", 41, api.ErrForm},
		{"act 1 \"a\" day 36 by order;" + strings.Repeat("repeal all;", 33) + "\n", 26 + 32*11, api.ErrFull},
		{"act 1 \"a\" day 36 by order;" + strings.Repeat("repeal all;", 32) + "; \n", 26 + 32*11, api.ErrFull},
		{"act 1 \"a\" day 36 by order;" + strings.Repeat("repeal all;", 32) + "\"act\";\n", 26 + 32*11, api.ErrFull}, // not the word act
		{"act 1 \"a\" day 36 by order" + "\n ", 27, api.ErrForm},
	} {
		for n := 1; n <= 16; n++ {
			for i := range n {
				l := slices.Repeat([]string{good}, n)
				l[i] = c.bad
				head := behind + ";\n"
				expectError(t, head+strings.Join(l, ""), len(head)+i*len(good)+c.at, c.errno)
				if i+1 < n { // what is wrong in later acts does not matter
					l[i+1] = "act;"
					expectError(t, head+strings.Join(l, ""), len(head)+i*len(good)+c.at, c.errno)
				}
			}
		}
	}
}

// TestManyActs parses texts with up to 20 acts, and errors before, in and behind the 17th one.
func TestManyActs(t *testing.T) {
	const one = "act 1 \"a\" day 0 by order; repeal all; "
	for n := range 21 {
		s := first + "; " + strings.Repeat(one, n)
		g, at, errno := gazette.Parse(s)
		if n <= 16 && (at != 0 || errno != api.OK || len(g.Acts) != n) || n > 16 && (at != len(first)+2+16*len(one) || errno != api.ErrFull) {
			t.Error(n, at, errno)
		}
		checkParse(t, s)
	}
	full := first + ";" + strings.Repeat(one, 16)
	for more, at := range map[string]int{"act": 0, "act;": 0, "\n\nact 1": 2, " act 0;": 1, one: 0, one + one: 0, one + "act": 0, "act act;;": 0, "act 1 \"a\" day 0 by order": 0} {
		expectError(t, full+more, len(full)+at, api.ErrFull)
	}
	for more, at := range map[string]int{";": 0, "repeal": 6, " acts": 1, "5": 0, "repeal all": 10, "repeal all;; act 1": 11, `"act";`: 0, ` "act" 1;`: 1} { // errors of the 16th act
		expectRefused(t, full+more, len(full)+at)
	}
	for i := range 20 { // an error before the 17th act comes first
		l := slices.Repeat([]string{one}, 20)
		l[i] = strings.Replace(one, "all", "alls", 1)
		s := first + ";" + strings.Join(l, "")
		if i < 16 {
			expectRefused(t, s, len(first)+1+i*len(one)+33)
		} else {
			expectError(t, s, len(full), api.ErrFull)
		}
	}
}

// The order of the errors

// TestParseErrorOrder parses texts with two errors, of which the first one in the list counts.
func TestParseErrorOrder(t *testing.T) {
	pad := func(s string, n int) string { return s + strings.Repeat(" ", n-len(s)) }
	one := "act 1 \"a\" day 0 by order;"
	many := strings.Repeat(one, 17)
	n := len(first)
	act16, act17 := n+1+15*len(one), n+1+16*len(one) // their offsets
	for _, c := range []struct {
		s     string
		at    int
		errno api.Errno
	}{
		{pad(first+";", maxText), 0, api.OK},
		{pad(first+";", maxText+1), 0, api.ErrFull},
		{pad(first+";"+oneAct, maxText), 0, api.OK},
		{pad(first+";"+oneAct, maxText+1), 0, api.ErrFull},
		{pad(first+"; ?", maxText), n + 2, api.ErrForm},
		{pad(first+"; ?", maxText+1), 0, api.ErrFull}, // the length before the error of token.Scan
		{pad(first, maxText), maxText, api.ErrForm},
		{pad(first, maxText+1), 0, api.ErrFull}, // before the first clause
		{pad("gazette act", maxText+1), 0, api.ErrFull},
		{pad(first+"; repeal all;", maxText+1), 0, api.ErrFull}, // before the second clause
		{pad(first+"; act;", maxText+1), 0, api.ErrFull},        // before an act
		{pad(first+"; "+many, maxText+1), 0, api.ErrFull},       // before the 17th act
		{"gazette act 05", 12, api.ErrForm},                     // token.Scan before the first clause
		{first + " 05", n + 1, api.ErrForm},
		{first + "; repeal 05", n + 9, api.ErrForm}, // before the second clause
		{first + ";;?", n + 2, api.ErrForm},
		{first + ";act; \"", n + 6, api.ErrForm},                       // before an act
		{first + ";" + many + "aB", act17 + len(one) + 1, api.ErrForm}, // before the 17th act
		{"gazette 0 gazette", 8, api.ErrForm},                          // the first of two tokens
		{first + " first; ;", n + 1, api.ErrForm},
		{"gazette 1; repeal all;", 9, api.ErrForm}, // the first clause before the second
		{"gazette 1;;", 9, api.ErrForm},
		{"gazette 1; act;", 9, api.ErrForm}, // before an act
		{first + " act;", n + 1, api.ErrForm},
		{"gazette;" + many, 7, api.ErrForm},            // before the 17th act
		{first + "; repeal; act;", n + 2, api.ErrForm}, // the second clause before an act
		{first + ";;act;", n + 1, api.ErrForm},
		{first + "; ;" + many, n + 2, api.ErrForm},                   // before the 17th act
		{first + ";" + one + ";act;", n + 1 + len(one), api.ErrForm}, // an act before the next one
		{first + "; act; act 0", n + 5, api.ErrForm},
		{first + "; act 0;" + many, n + 6, api.ErrForm}, // before the 17th one
		{first + ";" + strings.Repeat(one, 15) + "act;" + one, act16 + 3, api.ErrForm},
		{first + ";" + strings.Repeat(one, 16) + "act", act17, api.ErrFull}, // the 17th act before its own error
		{first + ";" + many + "repeal", act17, api.ErrFull},
		{first + ";" + many + "act 0;", act17, api.ErrFull}, // before an 18th
	} {
		if c.errno == api.OK {
			expectOK(t, c.s)
		} else {
			expectError(t, c.s, c.at, c.errno)
		}
	}
}

// Blanks and changed texts

// TestBeginnings parses every beginning of texts, and the texts without one byte and with one more.
func TestBeginnings(t *testing.T) {
	for _, g := range samples(t) {
		text, _ := textOf(g)
		for i := range len(text) {
			if errno := checkParse(t, text[:i]); errno == api.OK && !strings.HasSuffix(strings.TrimSpace(text[:i]), ";") {
				t.Errorf("%q", text[:i])
			}
			checkParse(t, text[:i]+text[i+1:])
			for _, more := range []string{";", " ", "\n", `"`, "a", "0", "?", "act ", ";act ", "\xff"} {
				checkParse(t, text[:i]+more+text[i:])
			}
		}
	}
}

// TestBlankAtEachPlace puts blanks at each place of texts: between tokens they change nothing, and inside a token they make another text.
func TestBlankAtEachPlace(t *testing.T) {
	for _, g := range samples(t) {
		text, _ := textOf(g)
		tokens, _, _ := token.Scan(text)
		inside := make([]bool, len(text)+1)
		for _, x := range tokens {
			for i := x.At + 1; i < x.At+len(token.Format(x)); i++ {
				inside[i] = true
			}
		}
		for i := range inside {
			for _, blanks := range []string{" ", "\n", " \n\n "} {
				s := text[:i] + blanks + text[i:]
				got, at, errno := gazette.Parse(s)
				if equal := at == 0 && errno == api.OK && gazette.Equal(got, g); equal == inside[i] {
					t.Fatalf("%q: %d %d", s, at, errno)
				}
				checkParse(t, s)
			}
			for _, other := range []string{"\t", "\r", "\u00a0", "\x00"} { // not blanks
				s := text[:i] + other + text[i:]
				if got, _, errno := gazette.Parse(s); errno == api.OK && gazette.Equal(got, g) {
					t.Fatalf("%q", s)
				}
				checkParse(t, s)
			}
		}
	}
}

// P19.3

// TestBlanks puts more blanks between all tokens, and none where none is needed.
func TestBlanks(t *testing.T) {
	r := rand.New(rand.NewSource(19))
	for _, g := range samples(t) {
		text, _ := textOf(g)
		tokens, _, _ := token.Scan(text)
		for n := range 100 {
			s := ""
			for _, x := range tokens {
				least := 1
				if x.Kind == api.TokenSign || x.Kind == api.TokenQuote || strings.HasSuffix(s, ";") || strings.HasSuffix(s, `"`) {
					least = n % 2
				}
				for range least + r.Intn(3)*(n%3) {
					s += string(" \n"[r.Intn(2)])
				}
				s += token.Format(x)
			}
			s += []string{"", "\n", "  \n"}[n%3]
			back, at, errno := gazette.Parse(s)
			again, e := gazette.Format(back)
			if at != 0 || errno != api.OK || again != text || e != api.OK || !same(back, g) {
				t.Fatalf("%q: %d %d", s, at, errno)
			}
			checkParse(t, s)
		}
	}
}

// TestCompactText parses a text without line feeds whose gazette has a text of its own that is too long.
func TestCompactText(t *testing.T) {
	for bytes, want := range map[int]api.Errno{maxText: api.OK, maxText + 1: api.ErrFull, maxText + 3: api.ErrFull} {
		a := longAct(bytes - len(first+";\n"))
		l, _ := act.Format(a)
		s := first + ";" + strings.ReplaceAll(l, ";\n", ";")
		g, at, errno := gazette.Parse(s)
		if len(s) != bytes-3 || at != 0 || errno != api.OK || !same(g.Acts, []api.Act{a}) {
			t.Error(len(s), at, errno)
		}
		if _, errno := gazette.Format(g); errno != want {
			t.Error(errno)
		}
		checkParse(t, s)
	}
}

// TestRandomGazettes formats and parses random gazettes, some of which are not valid, and changed texts.
func TestRandomGazettes(t *testing.T) {
	r := rand.New(rand.NewSource(193))
	pick := func(l ...int) int { return l[r.Intn(len(l))] }
	counts := map[api.Errno]int{}
	for range 200 {
		g := api.Gazette{Number: pick(1, 2, 1<<20, 1+r.Intn(1<<20)), Day: pick(0, 1<<20, r.Intn(1<<20)), Prior: []string{"", someDigest, farDigest}[r.Intn(3)]}
		for range r.Intn(17) {
			g.Acts = append(g.Acts, parseAct(t, sections[r.Intn(len(sections))]))
		}
		if r.Intn(4) == 0 {
			l := changesOf(g)
			g = l[r.Intn(len(l))]
		}
		counts[checkGazette(t, g)]++
		text, errno := gazette.Format(g)
		if errno != api.OK {
			continue
		}
		checkParse(t, text)
		l := strings.Split(strings.ReplaceAll(text, ";", " ;"), " ")
		for range 5 {
			i, j := r.Intn(len(l)), r.Intn(len(l))
			other := slices.Clone(l)
			other[i], other[j] = other[j], other[i]
			checkParse(t, strings.Join(other, " "))
			checkParse(t, strings.Join(slices.Delete(slices.Clone(l), min(i, j), min(max(i, j), min(i, j)+3)), " "))
			checkParse(t, strings.Join(slices.Insert(slices.Clone(l), i, l[j]), " "))
		}
	}
	if counts[api.OK] < 100 || counts[api.ErrArg] < 10 {
		t.Error(counts)
	}
}

// P1

// TestLongTextsRefused parses long texts.
func TestLongTextsRefused(t *testing.T) {
	for _, s := range []string{";", "act ", `"`, "\xff", " ", first + ";", "5;", "a;", "act;"} {
		expectError(t, strings.Repeat(s, 1<<16), 0, api.ErrFull)
		checkParse(t, strings.Repeat(s, maxText/len(s)))
		checkParse(t, first+";"+strings.Repeat(s, (maxText-len(first)-1)/len(s)))
		checkParse(t, first+";"+oneAct+strings.Repeat(s, (maxText-len(first)-1-len(oneAct))/len(s)))
	}
}

// FuzzParse compares Parse with the model.
func FuzzParse(f *testing.F) {
	for _, g := range samples(f) {
		text, _ := textOf(g)
		f.Add(text)
	}
	f.Fuzz(func(t *testing.T, s string) { checkParse(t, s) })
}
