package token_test

import (
	"math"
	"math/rand"
	"regexp"
	"slices"
	"strings"
	"testing"

	"pandect/api"
	"pandect/token"
)

// The model: it reads tokens by regular expressions, one for each row of the table of kinds.

var forms = map[int]*regexp.Regexp{
	api.TokenWord:   regexp.MustCompile(`\A[a-z][-a-z0-9]*`),
	api.TokenQuote:  regexp.MustCompile(`\A"(?:[^"\\]|\\["\\])*"`),
	api.TokenNumber: regexp.MustCompile(`\A[0-9]+`),
	api.TokenLabel:  regexp.MustCompile(`\A[0-9]+[A-Z]+`),
	api.TokenSign:   regexp.MustCompile(`\A[;,:.()]`),
}

var (
	leadingZero = regexp.MustCompile(`\A0[0-9]`)
	escapePair  = regexp.MustCompile(`\\(["\\])`)
	afterWord   = regexp.MustCompile(`\A[A-Z]`)
	afterNumber = regexp.MustCompile(`\A[-0-9a-z]`)
)

// piece is a token with the bytes that it consists of.
type piece struct {
	token  api.Token
	source string
}

// readOne returns the token that s begins with, or false if none can be read.
func readOne(s string) (piece, bool) {
	found := piece{token: api.Token{Kind: -1}}
	for kind, form := range forms {
		if m := form.FindString(s); len(m) > len(found.source) { // a label is longer than its number
			found = piece{api.Token{Kind: kind, Text: m}, m}
		}
	}
	switch found.token.Kind {
	case -1:
		return piece{}, false
	case api.TokenQuote:
		inside := found.source[1 : len(found.source)-1]
		found.token.Text = escapePair.ReplaceAllString(inside, "$1")
	case api.TokenNumber, api.TokenLabel:
		if leadingZero.MatchString(s) {
			return piece{}, false
		}
	}
	return found, found.token.Kind == api.TokenQuote || len(found.source) <= 24
}

// scan returns the tokens of s and the length of s, or no tokens and the offset of the first error.
func scan(s string) ([]piece, int, bool) {
	var out []piece
	for at := 0; at < len(s); {
		if s[at] == ' ' || s[at] == '\n' {
			at++
			continue
		}
		p, ok := readOne(s[at:])
		if !ok {
			return nil, at, false
		}
		p.token.At = at
		out = append(out, p)
		at += len(p.source)
		kind, rest := p.token.Kind, s[at:]
		if kind == api.TokenWord && afterWord.MatchString(rest) || (kind == api.TokenNumber || kind == api.TokenLabel) && afterNumber.MatchString(rest) {
			return nil, at, false
		}
	}
	return out, len(s), true
}

// tokensOf returns the tokens of the pieces.
func tokensOf(l []piece) []api.Token {
	var out []api.Token
	for _, p := range l {
		out = append(out, p.token)
	}
	return out
}

// quoted returns the text between quotes, escaped byte by byte.
func quoted(text string) string {
	out := []byte{'"'}
	for i := range len(text) {
		if text[i] == '"' || text[i] == '\\' {
			out = append(out, '\\')
		}
		out = append(out, text[i])
	}
	return string(append(out, '"'))
}

// isWellFormed follows the definition.
func isWellFormed(t api.Token) bool {
	source := t.Text
	if t.Kind == api.TokenQuote {
		source = quoted(source)
	}
	l, _, ok := scan(source)
	return ok && len(l) == 1 && l[0].token.Kind == t.Kind && l[0].token.Text == t.Text
}

// format follows the definition.
func format(l ...api.Token) string {
	var texts []string
	for _, t := range l {
		if !isWellFormed(t) {
			return ""
		}
		if t.Kind == api.TokenQuote {
			t.Text = quoted(t.Text)
		}
		texts = append(texts, t.Text)
	}
	return strings.Join(texts, " ")
}

// kindOf follows the definition.
func kindOf(s string) int {
	l, _, ok := scan(s)
	if !ok || len(l) != 1 || len(l[0].source) < len(s) {
		return -1
	}
	return l[0].token.Kind
}

// checkScan compares a scan with the model.
func checkScan(t *testing.T, s string) {
	t.Helper()
	want, wantEnd, ok := scan(s)
	wantErrno := api.OK
	if !ok {
		wantErrno = api.ErrForm
	}
	got, end, errno := token.Scan(s)
	if !slices.Equal(got, tokensOf(want)) || end != wantEnd || errno != wantErrno {
		t.Errorf("%q: %v %d %d, want %v %d", s, got, end, errno, want, wantEnd)
	}
}

// checkString compares all functions with the model, for a string.
func checkString(t *testing.T, s string) {
	t.Helper()
	checkScan(t, s)
	if got := token.KindOf(s); got != kindOf(s) {
		t.Errorf("%q: kind %d", s, got)
	}
	if got := token.Quote(s); got != quoted(s) {
		t.Errorf("%q: quoted as %q", s, got)
	}
	if got, ok := token.Unquote(quoted(s)); got != s || !ok {
		t.Errorf("%q: quoted and unquoted: %q %v", s, got, ok)
	}
	want, wantOK := "", kindOf(s) == api.TokenQuote
	if wantOK {
		p, _ := readOne(s)
		want = p.token.Text
	}
	if got, ok := token.Unquote(s); got != want || ok != wantOK || ok && quoted(got) != s {
		t.Errorf("%q: unquoted: %q %v", s, got, ok)
	}
	for kind := -1; kind <= 5; kind++ {
		x := api.Token{Kind: kind, At: -len(s), Text: s}
		if got := token.Format(x); got != format(x) {
			t.Errorf("%v: formatted as %q", x, got)
		}
	}
}

// tok returns a token.
func tok(kind, at int, text string) api.Token { return api.Token{Kind: kind, At: at, Text: text} }

const (
	word   = api.TokenWord
	quote  = api.TokenQuote
	number = api.TokenNumber
	label  = api.TokenLabel
	sign   = api.TokenSign
)

// P16.1: Scan

func TestExamples(t *testing.T) {
	s := "number section 5A as 6 ;"
	want := []api.Token{tok(word, 0, "number"), tok(word, 7, "section"), tok(label, 15, "5A"), tok(word, 18, "as"), tok(number, 21, "6"), tok(sign, 23, ";")}
	if got, end, errno := token.Scan(s); !slices.Equal(got, want) || end != len(s) || errno != api.OK {
		t.Error(got, end, errno)
	}
	if got := token.Quote(`a"b`); got != `"a\"b"` {
		t.Error(got)
	}
}

func TestScan(t *testing.T) {
	w24, n24, l24 := "a"+strings.Repeat("-9", 11)+"z", strings.Repeat("1", 24), strings.Repeat("1", 20)+"ABCZ"
	for s, want := range map[string][]api.Token{
		"":               nil,
		" ":              nil,
		"\n":             nil,
		" \n\n  \n ":     nil,
		" a":             {tok(word, 1, "a")},
		"a\n":            {tok(word, 0, "a")},
		"\n a \n\n b \n": {tok(word, 2, "a"), tok(word, 7, "b")},

		"az":            {tok(word, 0, "az")},
		"a-":            {tok(word, 0, "a-")},
		"a--b":          {tok(word, 0, "a--b")},
		"a0":            {tok(word, 0, "a0")},
		"a00-09-":       {tok(word, 0, "a00-09-")},
		w24:             {tok(word, 0, w24)},
		n24:             {tok(number, 0, n24)},
		l24:             {tok(label, 0, l24)},
		w24 + " " + n24: {tok(word, 0, w24), tok(number, 25, n24)},
		n24 + ";" + w24: {tok(number, 0, n24), tok(sign, 24, ";"), tok(word, 25, w24)},

		"0":     {tok(number, 0, "0")},
		"0A":    {tok(label, 0, "0A")},
		"0 0":   {tok(number, 0, "0"), tok(number, 2, "0")},
		"9":     {tok(number, 0, "9")},
		"10":    {tok(number, 0, "10")},
		"100":   {tok(number, 0, "100")},
		"10A":   {tok(label, 0, "10A")},
		"10AB":  {tok(label, 0, "10AB")},
		"1AAAA": {tok(label, 0, "1AAAA")}, // no label of layer 3
		"99999": {tok(number, 0, "99999")},

		";,:.()":  {tok(sign, 0, ";"), tok(sign, 1, ","), tok(sign, 2, ":"), tok(sign, 3, "."), tok(sign, 4, "("), tok(sign, 5, ")")},
		"(a)":     {tok(sign, 0, "("), tok(word, 1, "a"), tok(sign, 2, ")")},
		"5.6":     {tok(number, 0, "5"), tok(sign, 1, "."), tok(number, 2, "6")},
		"5A,b;":   {tok(label, 0, "5A"), tok(sign, 2, ","), tok(word, 3, "b"), tok(sign, 4, ";")},
		`a"b"c`:   {tok(word, 0, "a"), tok(quote, 1, "b"), tok(word, 4, "c")},
		`5"b"6`:   {tok(number, 0, "5"), tok(quote, 1, "b"), tok(number, 4, "6")},
		`5A"B"`:   {tok(label, 0, "5A"), tok(quote, 2, "B")},
		`."b".`:   {tok(sign, 0, "."), tok(quote, 1, "b"), tok(sign, 4, ".")},
		`"a""b"`:  {tok(quote, 0, "a"), tok(quote, 3, "b")},
		`"""" ""`: {tok(quote, 0, ""), tok(quote, 2, ""), tok(quote, 5, "")},

		`""`:                                    {tok(quote, 0, "")},
		`" "`:                                   {tok(quote, 0, " ")},
		"\"a\n\nb\"":                            {tok(quote, 0, "a\n\nb")},
		"\"\t\r\x00\"":                          {tok(quote, 0, "\t\r\x00")},
		"\"\xff\xc3\xa9\x80\"":                  {tok(quote, 0, "\xff\xc3\xa9\x80")},
		`"A-0 'x' ?"`:                           {tok(quote, 0, "A-0 'x' ?")},
		`"\""`:                                  {tok(quote, 0, `"`)},
		`"\\"`:                                  {tok(quote, 0, `\`)},
		`"\\\""`:                                {tok(quote, 0, `\"`)},
		`"\"\\"`:                                {tok(quote, 0, `"\`)},
		`"\\\\" b`:                              {tok(quote, 0, `\\`), tok(word, 7, "b")},
		`"a\"b" "c"`:                            {tok(quote, 0, `a"b`), tok(quote, 7, "c")},
		`"` + strings.Repeat("a ", 1<<10) + `"`: {tok(quote, 0, strings.Repeat("a ", 1<<10))},
	} {
		got, end, errno := token.Scan(s)
		if !slices.Equal(got, want) || end != len(s) || errno != api.OK {
			t.Errorf("%q: %v %d %d", s, got, end, errno)
		}
		checkString(t, s)
	}
}

// TestScanErrors scans strings with errors of each kind, and with two errors of which the first one counts.
func TestScanErrors(t *testing.T) {
	w25, n25, l25 := strings.Repeat("a", 25), strings.Repeat("1", 25), strings.Repeat("1", 22)+"ABC"
	for s, want := range map[string]int{
		"A": 0, "-": 0, "-a": 0, "a -": 2, "a Z": 2, "\t": 0, "a\tb": 1, "a\r\nb": 1, "\r": 0, "\x00": 0, "\x7f": 0, "a \xc3\xa9": 2, "\xff": 0, "é": 0, "aé": 1, "5é": 1, " \xa0": 1, "\u00a0a": 0, "\v": 0, "\f": 0,
		"!": 0, "#": 0, "'": 0, "*": 0, "+": 0, "/": 0, "<": 0, "=": 0, "?": 0, "@": 0, "[": 0, "_": 0, "`": 0, "{": 0, "a_b": 1, `\`: 0, `\"a\"`: 0, `a\`: 1,

		w25: 0, n25: 0, l25: 0, "a " + w25: 2, "a;" + n25: 2, `"a"` + l25: 3, strings.Repeat("a", 1<<16): 0, "a-" + strings.Repeat("0", 23): 0, "1" + strings.Repeat("A", 24): 0,

		"00": 0, "01": 0, "00A": 0, "0123": 0, "a 00": 2, "a;01A": 2, "1 00": 2, "1 2 0000000000000000000000000000": 4,

		"5a": 1, "5-": 1, "50z": 2, "5Aa": 2, "5A6": 2, "5A-": 2, "5AB0": 3, "0a": 1, "0-": 1, "0A0": 2, "10A10": 3, "a 5b": 3,
		"aA": 1, "a-Z": 2, "a0A": 2, "ab cD": 4,

		`"`: 0, `"a`: 0, `a "`: 2, `"a" "`: 4, `"a""`: 3, `"\"`: 0, `"\`: 0, `"a\`: 0, `"a\a"`: 0, `"\n"`: 0, "\"\\\n\"": 0, `"\ "`: 0, `"a" "\x"`: 4, `"\\\"`: 0, `a"\-"`: 1, "\"a\n": 0,

		"A B": 0, "a A 00": 2, "00 A": 0, w25 + "A": 0, "5a 00": 1, `5a"`: 1, `"a A`: 0, `"\x" A`: 0, n25 + "a": 0, "00a": 0, l25 + "-": 0, "aA" + w25: 1, "a\t\"": 1, "- -": 0, `5 "\x" 00`: 2,
	} {
		got, at, errno := token.Scan(s)
		if len(got) > 0 || at != want || errno != api.ErrForm {
			t.Errorf("%q: %v %d %d, want %d", s, got, at, errno, want)
		}
		checkString(t, s)
	}
}

// TestBytes looks at every byte alone, after and before tokens of each kind, inside quotes, and after an escape.
func TestBytes(t *testing.T) {
	for b := range 256 {
		s := string([]byte{byte(b)})
		for _, before := range []string{"", "a", "5", "5A", ";", `"a"`, " ", `"`, `"\`, `"\\`} {
			for _, after := range []string{"", "a", "5", "A", ";", `"a"`, " ", `"`} {
				checkString(t, before+s+after)
			}
		}
		text, ok := token.Unquote(token.Quote(s))
		if text != s || !ok {
			t.Error(b, text, ok)
		}
		isSpecial := s == `"` || s == `\`
		if got := token.Quote(s); isSpecial != (got == `"\`+s+`"`) || isSpecial == (got == `"`+s+`"`) {
			t.Error(b, got)
		}
	}
}

// shortStrings calls visit with all strings of at most n bytes of the alphabet that begin with start.
func shortStrings(alphabet, start string, n int, visit func(s string)) {
	visit(start)
	if n == 0 {
		return
	}
	for i := range len(alphabet) {
		shortStrings(alphabet, start+alphabet[i:i+1], n-1, visit)
	}
}

// TestShortStrings compares all functions with the model, for all short strings.
func TestShortStrings(t *testing.T) {
	shortStrings("a-01AZ\"\\; \n\t\xc3", "", 4, func(s string) { checkString(t, s) })
	shortStrings("a0A\" ", "", 6, func(s string) { checkScan(t, s) })
	shortStrings("a\\\"", "\"", 8, func(s string) { checkString(t, s) })
}

// TestLengths scans runs of all lengths around the greatest one.
func TestLengths(t *testing.T) {
	for n := range 60 {
		for _, start := range []string{"a", "9", "0", "9A", "10", "a9", "a-"} {
			for _, more := range []string{"a", "9", "0", "A", "Z", "-"} {
				s := start + strings.Repeat(more, n)
				checkString(t, s)
				checkString(t, `"`+s+`";`+s)
			}
		}
	}
	for digits := 1; digits <= 26; digits++ {
		for letters := range 27 {
			s := strings.Repeat("7", digits) + strings.Repeat("B", letters)
			want := -1
			if digits+letters <= 24 {
				want = number
				if letters > 0 {
					want = label
				}
			}
			if got := token.KindOf(s); got != want {
				t.Error(s, got)
			}
		}
	}
}

// P16.1: Format, Quote, Unquote and KindOf

func TestFormat(t *testing.T) {
	for _, c := range []struct {
		want string
		l    []api.Token
	}{
		{"", nil},
		{"a", []api.Token{tok(word, 0, "a")}},
		{`"a"`, []api.Token{tok(quote, 0, "a")}},
		{`""`, []api.Token{tok(quote, 0, "")}},
		{`"\"\\" ` + "\"\n\"", []api.Token{tok(quote, 0, `"\`), tok(quote, 0, "\n")}},
		{"0", []api.Token{tok(number, 0, "0")}},
		{"0A", []api.Token{tok(label, 0, "0A")}},
		{"(", []api.Token{tok(sign, 0, "(")}},
		{`a "b c" 5 5A ; ; a`, []api.Token{tok(word, 0, "a"), tok(quote, -1, "b c"), tok(number, 7, "5"), tok(label, math.MaxInt, "5A"), tok(sign, math.MinInt, ";"), tok(sign, 0, ";"), tok(word, 0, "a")}},
	} {
		if got := token.Format(c.l...); got != c.want {
			t.Errorf("%v: %q, want %q", c.l, got, c.want)
		}
	}
}

// TestNotWellFormed formats tokens that are not well-formed in each way, alone and among others.
func TestNotWellFormed(t *testing.T) {
	good := []api.Token{tok(word, 0, "a"), tok(quote, 0, "a"), tok(number, 0, "5"), tok(label, 0, "5A"), tok(sign, 0, ";")}
	var bad []api.Token
	for _, x := range good {
		for _, kind := range []int{math.MinInt, -2, -1, 5, 6, 256, math.MaxInt, x.Kind - 5, x.Kind + 5} {
			bad = append(bad, tok(kind, 0, x.Text))
		}
		for _, y := range good {
			if x.Kind != y.Kind && y.Kind != quote {
				text := x.Text
				if x.Kind == quote {
					text = `"a"`
				}
				bad = append(bad, tok(y.Kind, 0, text))
			}
		}
		if x.Kind == quote {
			continue // any string is the text of a quoted string
		}
		for _, text := range []string{"", " ", "\n", " " + x.Text, x.Text + " ", "\n" + x.Text, x.Text + "\n", x.Text + " " + x.Text, x.Text + ";", ";" + x.Text, x.Text + `"a"`, x.Text + "\t", x.Text + "\xc3", x.Text + "A-", "A", "-", "00", `"`, `"a"`, `"a`, strings.Repeat(x.Text, 25)} {
			if text != "A" || x.Kind != label {
				bad = append(bad, tok(x.Kind, 0, text))
			}
		}
	}
	for _, x := range bad {
		if got := token.Format(x); got != "" || isWellFormed(x) {
			t.Errorf("%v: %q", x, got)
		}
		for i := range len(good) + 1 {
			if got := token.Format(slices.Insert(slices.Clone(good), i, x)...); got != "" {
				t.Errorf("%v: %q", x, got)
			}
		}
	}
	for _, x := range bad {
		x.Kind = quote
		if got := token.Format(x); got != quoted(x.Text) {
			t.Errorf("%v: %q", x, got)
		}
	}
}

func TestQuote(t *testing.T) {
	for s, want := range map[string]string{"": `""`, "a": `"a"`, `"`: `"\""`, `\`: `"\\"`, `\"`: `"\\\""`, `"a"`: `"\"a\""`, "a b\n": "\"a b\n\"", `\\`: `"\\\\"`, "é\xff\x00": "\"é\xff\x00\"", `\n`: `"\\n"`} {
		if got := token.Quote(s); got != want {
			t.Errorf("%q: %q", s, got)
		}
		if got, ok := token.Unquote(want); got != s || !ok {
			t.Errorf("%q: %q %v", want, got, ok)
		}
	}
	for _, s := range []string{"", "a", " ", `"`, `\`, `"a`, `a"`, `a"b"`, `"a"b`, ` "a"`, `"a" `, "\"a\"\n", `"a""b"`, `"a" "b"`, `"""`, `"\"`, `"\a"`, `"a\`, `""a`, "5", "5A", ";", "'a'", `\"a\"`, "00", `"a" A`} {
		if got, ok := token.Unquote(s); got != "" || ok {
			t.Errorf("%q: %q %v", s, got, ok)
		}
	}
}

func TestKindOf(t *testing.T) {
	for s, want := range map[string]int{
		"a": word, "a-0": word, "book": word, strings.Repeat("a", 24): word,
		`""`: quote, `"a"`: quote, `" "`: quote, "\"\n\"": quote, `" a "`: quote, `"\""`: quote, `"` + strings.Repeat("a", 1000) + `"`: quote,
		"0": number, "5": number, "10": number, strings.Repeat("9", 24): number,
		"0A": label, "5A": label, "10AB": label, strings.Repeat("9", 12) + strings.Repeat("Z", 12): label,
		";": sign, ",": sign, ":": sign, ".": sign, "(": sign, ")": sign,
		"": -1, " ": -1, "\n": -1, "a ": -1, " a": -1, "\na": -1, "a\n": -1, `"a" `: -1, "\n\"a\"": -1, " 5": -1, "5A\n": -1, "; ": -1,
		"a b": -1, "a;": -1, ";;": -1, "5 A": -1, `"a""b"`: -1, `a"b"`: -1, "5;": -1, "5 6": -1,
		"A": -1, "-": -1, "aA": -1, "00": -1, "5a": -1, "5A6": -1, `"a`: -1, `"\a"`: -1, "\t": -1, "\xff": -1, strings.Repeat("a", 25): -1, strings.Repeat("9", 25): -1,
	} {
		if got := token.KindOf(s); got != want {
			t.Errorf("%q: %d, want %d", s, got, want)
		}
	}
}

// P16.2 and P16.3

// randomToken returns a well-formed token.
func randomToken(r *rand.Rand) api.Token {
	run := func(bytes string, n int) string {
		b := make([]byte, n)
		for i := range b {
			b[i] = bytes[r.Intn(len(bytes))]
		}
		return string(b)
	}
	x := api.Token{Kind: r.Intn(5), At: r.Intn(100) - 50}
	switch x.Kind {
	case word:
		x.Text = run("az", 1) + run("az09-", r.Intn(24))
	case quote:
		x.Text = run("a\"\\ \n;0A\xff", r.Intn(9))
	case number, label:
		x.Text = run("19", 1) + run("019", r.Intn(20))
		if r.Intn(4) == 0 {
			x.Text = "0"
		}
		if x.Kind == label {
			x.Text += run("AZ", 1+r.Intn(4))
		}
	case sign:
		x.Text = run(";,:.()", 1)
	}
	return x
}

// withoutOffsets returns the tokens with zero offsets.
func withoutOffsets(l []api.Token) []api.Token {
	var out []api.Token
	for _, x := range l {
		x.At = 0
		out = append(out, x)
	}
	return out
}

// TestScanFormatted scans what Format returns.
func TestScanFormatted(t *testing.T) {
	r := rand.New(rand.NewSource(16))
	for range 20000 {
		var l []api.Token
		for range r.Intn(8) {
			l = append(l, randomToken(r))
		}
		s := token.Format(l...)
		if s != format(l...) || s == "" && len(l) > 0 {
			t.Errorf("%v: %q", l, s)
		}
		checkScan(t, s)
		got, end, errno := token.Scan(s)
		if errno != api.OK || end != len(s) || !slices.Equal(withoutOffsets(got), withoutOffsets(l)) {
			t.Errorf("%v: %q: %v", l, s, got)
		}
		if again := token.Format(got...); again != s {
			t.Errorf("%q: %q", s, again)
		}
	}
}

// randomBlanks returns at most n spaces and line feeds.
func randomBlanks(r *rand.Rand, n int) string {
	var b strings.Builder
	for range r.Intn(n + 1) {
		b.WriteByte(" \n"[r.Intn(2)])
	}
	return b.String()
}

// spread returns s with further blanks before, after and between the tokens, and the tokens to be expected.
func spread(r *rand.Rand, s string, l []piece) (string, []api.Token) {
	out, at := randomBlanks(r, 3), 0
	var tokens []api.Token
	for _, p := range l {
		out += s[at:p.token.At] + randomBlanks(r, 3)
		tokens = append(tokens, tok(p.token.Kind, len(out), p.token.Text))
		out += p.source
		at = p.token.At + len(p.source)
	}
	return out + randomBlanks(r, 3) + s[at:], tokens
}

// TestFurtherBlanks adds blanks to strings of all tokens that may touch, and of random ones.
func TestFurtherBlanks(t *testing.T) {
	r := rand.New(rand.NewSource(163))
	n := 0
	check := func(s string) {
		l, _, ok := scan(s)
		if !ok {
			return
		}
		n++
		spaced, want := spread(r, s, l)
		got, end, errno := token.Scan(spaced)
		if errno != api.OK || end != len(spaced) || !slices.Equal(got, want) {
			t.Errorf("%q: %v, want %v", spaced, got, want)
		}
		if kinds, _, _ := token.Scan(s); !slices.Equal(withoutOffsets(kinds), withoutOffsets(got)) {
			t.Errorf("%q and %q: %v and %v", s, spaced, kinds, got)
		}
	}
	shortStrings("a0A-\"\\; ", "", 5, check)
	for range 5000 {
		s := ""
		for range r.Intn(9) {
			s += token.Format(randomToken(r)) + randomBlanks(r, 1)
		}
		check(s)
	}
	if n < 5000 {
		t.Error(n)
	}
}

// Memory

// TestMemory changes a result of Scan, and scans again.
func TestMemory(t *testing.T) {
	s := `a "b" 5 5A ;`
	one, _, _ := token.Scan(s)
	two, _, _ := token.Scan(s)
	want := slices.Clone(two)
	one = one[:cap(one)]
	for i := range one {
		one[i] = tok(9, 9, "spoiled")
	}
	three, _, _ := token.Scan(s)
	if !slices.Equal(two, want) || !slices.Equal(three, want) {
		t.Error(two, three)
	}
	l := append(make([]api.Token, 0, 9), want...)
	if token.Format(l...) != s || !slices.Equal(l, want) || slices.ContainsFunc(l[len(l):cap(l)], func(x api.Token) bool { return x != api.Token{} }) {
		t.Error("Format modifies its arguments", l)
	}
}

// P1

// TestLongStrings gives long strings and many tokens to every function.
func TestLongStrings(t *testing.T) {
	const n = 1 << 17
	for _, piece := range []string{"a", "1", "0", "A", `"`, `\`, `"\`, `\"`, ";", " ", "\n", "a ", `"a"`, "5A\n", "\xff", `"\"`} {
		s := strings.Repeat(piece, n)
		checkScan(t, s)
		if token.KindOf(s) != -1 {
			t.Errorf("%q", piece)
		}
		if text, ok := token.Unquote(s); ok || text != "" {
			t.Errorf("%q", piece)
		}
		if text, ok := token.Unquote(token.Quote(s)); !ok || text != s {
			t.Errorf("%q", piece)
		}
		if got := token.Format(tok(quote, 0, s)); got != quoted(s) {
			t.Errorf("%q", piece)
		}
	}
	if got := token.Format(slices.Repeat([]api.Token{tok(word, 0, "a")}, n)...); len(got) != 2*n-1 {
		t.Error(len(got))
	}
}
