package act_test

import (
	"fmt"
	"math"
	"math/rand"
	"reflect"
	"regexp"
	"slices"
	"strconv"
	"strings"
	"testing"

	"pandect/act"
	"pandect/api"
	"pandect/plaintext"
	"pandect/syntax"
	"pandect/token"
)

// The model: it follows the definitions.

const maxText = 16384

var (
	nameForm = regexp.MustCompile(`\A[a-z][-a-z0-9]{0,15}\z`)
	wordForm = regexp.MustCompile(`\A[!-~]{1,24}\z`)
)

// isTitle reports whether the title is the text of 1 to 256 words.
func isTitle(s string) bool {
	l := strings.Split(s, " ")
	return len(l) <= 256 && !slices.ContainsFunc(l, func(w string) bool { return !wordForm.MatchString(w) })
}

// isRule reports whether the start can be the commencement rule of an act.
func isRule(s api.Start) bool {
	switch s.Kind {
	case api.OnDay:
		return s.Day >= 0 && s.Day <= 1<<20 && s.Event == ""
	case api.OnOrder:
		return s == api.Start{Kind: api.OnOrder}
	case api.OnEvent:
		return s.Day == 0 && nameForm.MatchString(s.Event)
	}
	return false
}

// isValid reports whether the act is valid.
func isValid(a api.Act) bool {
	for _, it := range a.Items {
		if !syntax.Valid(it) {
			return false
		}
	}
	return a.Number >= 1 && a.Number <= 1<<20 && isTitle(a.Title) && a.Day >= 0 && a.Day <= 1<<20 && isRule(a.Start) && len(a.Items) <= 32
}

// textOf returns the text of a valid act whose items have texts.
func textOf(a api.Act) string {
	rule := map[int]string{api.OnDay: fmt.Sprint("from day ", a.Start.Day), api.OnOrder: "by order", api.OnEvent: "on event " + a.Start.Event}[a.Start.Kind]
	title := strings.ReplaceAll(strings.ReplaceAll(a.Title, `\`, `\\`), `"`, `\"`)
	text := fmt.Sprintf("act %d \"%s\" day %d %s;\n", a.Number, title, a.Day, rule)
	for _, it := range a.Items {
		s, _ := syntax.Format(it)
		text += s + ";\n"
	}
	return text
}

// places contains the predicates of the tokens of the first segment, for each commencement rule.
func places() [][]func(t api.Token) bool {
	word := func(s string) func(t api.Token) bool {
		return func(t api.Token) bool { return t.Kind == api.TokenWord && t.Text == s }
	}
	number := func(least int64) func(t api.Token) bool {
		return func(t api.Token) bool {
			n, err := strconv.ParseInt(t.Text, 10, 32)
			return t.Kind == api.TokenNumber && err == nil && n >= least && n <= 1<<20
		}
	}
	title := func(t api.Token) bool { return t.Kind == api.TokenQuote && isTitle(t.Text) }
	name := func(t api.Token) bool { return t.Kind == api.TokenWord && nameForm.MatchString(t.Text) }
	start := []func(t api.Token) bool{word("act"), number(1), title, word("day"), number(0)}
	return [][]func(t api.Token) bool{
		slices.Concat(start, []func(t api.Token) bool{word("from"), word("day"), number(0)}),
		slices.Concat(start, []func(t api.Token) bool{word("by"), word("order")}),
		slices.Concat(start, []func(t api.Token) bool{word("on"), word("event"), name}),
	}
}

// refusal returns the offset and the error that Parse returns.
func refusal(s string) (int, api.Errno) {
	if len(s) > maxText {
		return 0, api.ErrFull
	}
	tokens, at, errno := token.Scan(s)
	if errno != api.OK {
		return at, errno
	}
	for n := 0; len(tokens) > 0 || n == 0; n++ {
		size := slices.IndexFunc(tokens, func(t api.Token) bool { return t.Kind == api.TokenSign && t.Text == ";" })
		ended := size >= 0
		end := len(s)
		if ended {
			end = tokens[size].At
		} else {
			size = len(tokens)
		}
		if at, errno := segmentRefusal(s, tokens[:size], end, n); errno != api.OK {
			return at, errno
		}
		if !ended {
			return len(s), api.ErrForm
		}
		tokens = tokens[size+1:]
	}
	return 0, api.OK
}

// segmentRefusal returns the error of the segment n, which has the tokens and ends before the offset, and the offset of the error.
func segmentRefusal(s string, tokens []api.Token, end, n int) (int, api.Errno) {
	start := end
	if len(tokens) > 0 {
		start = tokens[0].At
	}
	if n == 33 {
		return start, api.ErrFull
	}
	if n > 0 {
		_, at, errno := syntax.Parse(s[start:end])
		return start + at, errno
	}
	reach := 0
	for _, l := range places() {
		i := 0
		for i < len(l) && i < len(tokens) && l[i](tokens[i]) {
			i++
		}
		if i == len(l) && i == len(tokens) {
			return 0, api.OK
		}
		reach = max(reach, i)
	}
	if reach < len(tokens) {
		return tokens[reach].At, api.ErrForm
	}
	return end, api.ErrForm
}

// Comparison with the model.

// normal returns a copy of the value in which every empty slice is nil. It shares nothing with the value.
func normal(v reflect.Value) reflect.Value {
	out := reflect.New(v.Type()).Elem()
	switch v.Kind() {
	case reflect.Struct:
		for i := range v.NumField() {
			out.Field(i).Set(normal(v.Field(i)))
		}
	case reflect.Slice:
		for i := range v.Len() {
			out.Set(reflect.Append(out, normal(v.Index(i))))
		}
	default:
		out.Set(v)
	}
	return out
}

// copyOf returns a copy of the value that shares nothing with it.
func copyOf[T any](x T) T { return normal(reflect.ValueOf(x)).Interface().(T) }

// same reports whether two values are equal throughout, where nil and empty slices are equal.
func same[T any](a, b T) bool { return reflect.DeepEqual(copyOf(a), copyOf(b)) }

// checkAct compares Valid and Format with the model, and Parse of the text if there is one. It returns the error of Format.
func checkAct(t *testing.T, a api.Act) api.Errno {
	t.Helper()
	text, errno := "", api.ErrArg
	if isValid(a) {
		text, errno = textOf(a), api.OK
		for _, it := range a.Items {
			if _, e := syntax.Format(it); e != api.OK {
				errno = e
			}
		}
		if len(text) > maxText {
			errno = api.ErrFull
		}
	}
	if act.Valid(a) != (errno != api.ErrArg) {
		t.Fatalf("Valid(%v): %v", a, act.Valid(a))
	}
	if errno != api.OK {
		text = ""
	}
	if got, e := act.Format(a); got != text || e != errno {
		t.Fatalf("Format(%v): %q %d, want %q %d", a, got, e, text, errno)
	}
	if errno == api.OK {
		back, at, e := act.Parse(text)
		if e != api.OK || at != 0 || !same(back, a) || !act.Equal(back, a) {
			t.Fatalf("Parse(%q): %v %d %d", text, back, at, e)
		}
	}
	return errno
}

// checkParse compares Parse with the model. It returns the error.
func checkParse(t *testing.T, s string) api.Errno {
	t.Helper()
	at, errno := refusal(s)
	a, gotAt, e := act.Parse(s)
	if gotAt != at || e != errno {
		t.Fatalf("Parse(%q): %d %d, want %d %d", s, gotAt, e, at, errno)
	}
	if errno != api.OK {
		if !same(a, api.Act{}) {
			t.Fatalf("Parse(%q): %v", s, a)
		}
		return errno
	}
	tokens, _, _ := token.Scan(s)
	if text := strings.ReplaceAll(token.Format(tokens...)+" ", " ; ", ";\n"); !isValid(a) || textOf(a) != text {
		t.Fatalf("Parse(%q): %v", s, a)
	}
	return errno
}

// expectRefused expects the offset of an ErrForm.
func expectRefused(t *testing.T, s string, at int) {
	t.Helper()
	a, got, errno := act.Parse(s)
	if got != at || errno != api.ErrForm || !same(a, api.Act{}) {
		t.Errorf("Parse(%q): %v %d %d, want %d", s, a, got, errno, at)
	}
	checkParse(t, s)
}

// Samples.

// item returns the instruction with the given text.
func item(t testing.TB, text string) api.Item {
	t.Helper()
	it, _, errno := syntax.Parse(text)
	if errno != api.OK {
		t.Fatal(text)
	}
	return it
}

// items returns an instruction of each kind, and some more.
func items(t testing.TB) []api.Item {
	var l []api.Item
	for _, text := range []string{
		"into book first insert \"section 1: of \\\"ships\\\" | a b\n  paragraph 1: c | d \\\\\\\\\n    note 1 | e\n  paragraph 2\n\" by order",
		`repeal section 3`, `in section 5 for "old words" put "new" at 1`, `in section 5 behind "old" put "very new" each read for trade`, `in all ahead of all put "; x"`, `head section 5 as "of ships" from day 7`, `number section 5 as 5A`, `move section 5 into part 2 last on event peace`,
		`commence act 4 item 2 from day 36191`, `expire act 4 from day 9`, `revive act 4 from day 10`, `happen peace on day 8`, `correct act 4 item 0 as head all as "w"`,
	} {
		l = append(l, item(t, text))
	}
	return l
}

// fish returns a valid act with items of all kinds.
func fish(t testing.TB) api.Act {
	return api.Act{Number: 4, Title: `Fish "Act"`, Day: 36000, Start: api.Start{Kind: api.OnDay, Day: 36100}, Items: items(t)}
}

// bare returns a valid act without items.
func bare() api.Act {
	return api.Act{Number: 1, Title: "a", Start: api.Start{Kind: api.OnOrder}}
}

// P18.1: the example, the text, and what is valid

func TestExamples(t *testing.T) {
	a, at, errno := act.Parse(`act 4 "Fish Act" day 36000 by order; repeal section 3;`)
	want := api.Act{Number: 4, Title: "Fish Act", Day: 36000, Start: api.Start{Kind: api.OnOrder}, Items: []api.Item{{Kind: api.Repeal, At: []api.Step{{Kind: api.Section, Label: "3"}}}}}
	if at != 0 || errno != api.OK || !same(a, want) || !act.Equal(a, want) || !act.Valid(want) {
		t.Error(a, at, errno)
	}
	if text, errno := act.Format(want); text != "act 4 \"Fish Act\" day 36000 by order;\nrepeal section 3;\n" || errno != api.OK {
		t.Error(text, errno)
	}
}

func TestTexts(t *testing.T) {
	for text, a := range map[string]api.Act{
		"act 1 \"a\" day 0 by order;\n":                          bare(),
		"act 1048576 \"a b\" day 1048576 from day 0;\n":          {Number: 1 << 20, Title: "a b", Day: 1 << 20, Start: api.Start{Kind: api.OnDay}},
		"act 20 \"\\\"\\\\\" day 9 from day 1048576;\n":          {Number: 20, Title: `"\`, Day: 9, Start: api.Start{Kind: api.OnDay, Day: 1 << 20}},
		"act 20 \"; | ;\" day 10 on event abcdefghijklmnop;\n":   {Number: 20, Title: "; | ;", Day: 10, Start: api.Start{Kind: api.OnEvent, Event: "abcdefghijklmnop"}},
		"act 2 \"day\" day 10 on event on;\nhead all as \"\";\n": {Number: 2, Title: "day", Day: 10, Start: api.Start{Kind: api.OnEvent, Event: "on"}, Items: []api.Item{{Kind: api.Heading}}},
		"act 2 \"a\" day 1 by order;\nahead of section 2 insert \"section 1 | ;\n\";\ncommence act 1 from day 5;\nrepeal all by order;\n": {Number: 2, Title: "a", Day: 1, Start: api.Start{Kind: api.OnOrder}, Items: []api.Item{
			{At: []api.Step{{Kind: api.Section, Label: "2"}}, Where: api.Before, Unit: api.Unit{Kind: api.Section, Label: "1", Words: []api.Word{{Text: ";"}}}}, {Kind: api.Commence, Act: 1, Item: -1, Day: 5}, {Kind: api.Repeal, Start: api.Start{Kind: api.OnOrder}},
		}},
	} {
		if got, errno := act.Format(a); got != text || errno != api.OK || !act.Valid(a) {
			t.Errorf("%q %d, want %q", got, errno, text)
		}
		if got, at, errno := act.Parse(text); at != 0 || errno != api.OK || !same(got, a) || !act.Equal(got, a) {
			t.Errorf("%q: %v %d %d", text, got, at, errno)
		}
		checkAct(t, a)
		checkParse(t, text)
	}
	checkAct(t, fish(t))
}

func TestBounds(t *testing.T) {
	for _, c := range []struct {
		field    string
		from, to int
	}{{"Number", 1, 1 << 20}, {"Day", 0, 1 << 20}} {
		for n, want := range map[int]bool{c.from: true, c.from + 1: true, c.to: true, c.from - 1: false, c.to + 1: false, -c.to: false, math.MinInt: false, math.MaxInt: false} {
			for _, a := range []api.Act{bare(), fish(t)} {
				reflect.ValueOf(&a).Elem().FieldByName(c.field).SetInt(int64(n))
				if act.Valid(a) != want {
					t.Error(c.field, n)
				}
				checkAct(t, a)
			}
		}
	}
}

func TestRules(t *testing.T) {
	name16 := strings.Repeat("e", 16)
	for _, c := range []struct {
		s    api.Start
		want bool
	}{
		{api.Start{}, false}, {api.Start{Day: 1}, false}, {api.Start{Event: "a"}, false}, {api.Start{Kind: -1}, false}, {api.Start{Kind: 4}, false}, {api.Start{Kind: 4, Event: "a"}, false}, {api.Start{Kind: math.MaxInt, Day: 1}, false},
		{api.Start{Kind: api.OnDay}, true}, {api.Start{Kind: api.OnDay, Day: 1 << 20}, true}, {api.Start{Kind: api.OnDay, Day: -1}, false}, {api.Start{Kind: api.OnDay, Day: 1<<20 + 1}, false}, {api.Start{Kind: api.OnDay, Event: "a"}, false}, {api.Start{Kind: api.OnDay, Day: 5, Event: "a"}, false},
		{api.Start{Kind: api.OnOrder}, true}, {api.Start{Kind: api.OnOrder, Day: 1}, false}, {api.Start{Kind: api.OnOrder, Event: "a"}, false},
		{api.Start{Kind: api.OnEvent, Event: "a"}, true}, {api.Start{Kind: api.OnEvent, Event: name16}, true}, {api.Start{Kind: api.OnEvent, Event: "z-9"}, true}, {api.Start{Kind: api.OnEvent, Event: "a", Day: 1}, false}, {api.Start{Kind: api.OnEvent}, false},
		{api.Start{Kind: api.OnEvent, Event: name16 + "e"}, false}, {api.Start{Kind: api.OnEvent, Event: "A"}, false}, {api.Start{Kind: api.OnEvent, Event: "1a"}, false}, {api.Start{Kind: api.OnEvent, Event: "-a"}, false}, {api.Start{Kind: api.OnEvent, Event: "a b"}, false}, {api.Start{Kind: api.OnEvent, Event: "é"}, false},
	} {
		a := fish(t)
		a.Start = c.s
		if act.Valid(a) != c.want {
			t.Error(c.s)
		}
		checkAct(t, a)
	}
}

func TestTitles(t *testing.T) {
	many := func(n int, word string) string { return strings.TrimSuffix(strings.Repeat(word+" ", n), " ") }
	for title, want := range map[string]bool{
		"a": true, "Fish Act": true, `"`: true, `\ "`: true, "~ !": true, ";": true, many(256, "a"): true, many(256, strings.Repeat("w", 24)): true, strings.Repeat("w", 24): true,
		"": false, " ": false, " a": false, "a ": false, "a  b": false, "a\nb": false, "a\n": false, "\t": false, "é": false, "\x7f": false, "\x00": false, many(257, "a"): false, strings.Repeat("w", 25): false, "a " + strings.Repeat("w", 25): false, strings.Repeat("a", 1<<17): false, strings.Repeat("a ", 1<<16): false,
	} {
		a := bare()
		a.Title = title
		if act.Valid(a) != want {
			t.Errorf("%.40q", title)
		}
		checkAct(t, a)
		s := "act 1 " + token.Quote(title) + " day 5 by order;"
		if _, at, errno := act.Parse(s); len(s) <= maxText && ((errno == api.OK) != want || !want && at != 6) {
			t.Errorf("%.40q: %d %d", title, at, errno)
		}
		checkParse(t, s)
	}
}

func TestItems(t *testing.T) {
	bad := api.Item{Kind: api.Repeal, Label: "1"}
	for n, want := range map[int]bool{0: true, 1: true, 2: true, 31: true, 32: true, 33: false, 34: false, 1000: false} {
		a := bare()
		a.Items = slices.Repeat([]api.Item{{Kind: api.Repeal}}, n)
		if act.Valid(a) != want {
			t.Error(n)
		}
		checkAct(t, a)
		for i := range min(n, 33) {
			b := copyOf(a)
			b.Items[i] = bad
			if act.Valid(b) {
				t.Error(n, i)
			}
			checkAct(t, b)
		}
	}
	for _, it := range append(items(t), bad, api.Item{}, api.Item{Kind: -1}, api.Item{Kind: 12}) {
		a := bare()
		a.Items = []api.Item{it}
		if act.Valid(a) != syntax.Valid(it) {
			t.Error(it)
		}
		checkAct(t, a)
	}
}

// The errors of Format

// wordsOf returns a word sequence whose text, quoted, has exactly so many bytes between the quotes.
func wordsOf(bytes int) []string {
	word := func(n int) string { // two bytes for each backslash
		doubled := max(0, n-24)
		return strings.Repeat(`\`, doubled) + strings.Repeat("x", n-2*doubled)
	}
	var l []string
	for bytes > 48 {
		n := min(48, bytes-2)
		l = append(l, word(n))
		bytes -= n + 1
	}
	return append(l, word(bytes))
}

// longItem returns an instruction whose text has exactly so many bytes, or would have.
func longItem(t *testing.T, bytes int) api.Item {
	t.Helper()
	room := bytes - len(`in all for "" put "" each`)
	it := api.Item{Kind: api.ReplaceWords, Old: wordsOf(room / 2), New: wordsOf(room - room/2)}
	text, errno := syntax.Format(it)
	if !syntax.Valid(it) || errno == api.OK && len(text) != bytes || (errno == api.OK) != (bytes <= maxText) {
		t.Fatal(bytes, len(text), errno)
	}
	return it
}

func TestLongTexts(t *testing.T) {
	for _, a := range []api.Act{bare(), fish(t)} {
		room := maxText - len(textOf(a)) - len(";\n")
		for bytes, want := range map[int]api.Errno{room - 1: api.OK, room: api.OK, room + 1: api.ErrFull, maxText: api.ErrFull, maxText + 1: api.ErrFull} {
			for i := range len(a.Items) + 1 {
				b := copyOf(a)
				b.Items = slices.Insert(b.Items, i, longItem(t, bytes))
				text, errno := act.Format(b)
				if errno != want || (text == "") != (want != api.OK) || !act.Valid(b) {
					t.Error(bytes, len(text), errno)
				}
				checkAct(t, b)
			}
		}
	}
	a := bare()
	a.Items = slices.Repeat([]api.Item{longItem(t, 512)}, 32)
	if _, errno := act.Format(a); errno != api.ErrFull || !act.Valid(a) {
		t.Error(errno)
	}
	a.Items = a.Items[:31]
	if text, errno := act.Format(a); errno != api.OK || len(text) < 15000 {
		t.Error(errno)
	}
}

// TestFormatErrorOrder formats acts that are not valid and whose text, or the text of an item, would be too long.
func TestFormatErrorOrder(t *testing.T) {
	bad := api.Item{Kind: api.Repeal, Nth: 1}
	for _, l := range [][]api.Item{{longItem(t, maxText+1)}, {longItem(t, 12000), longItem(t, 12000)}} {
		a := bare()
		a.Items = l
		if _, errno := act.Format(a); errno != api.ErrFull {
			t.Error(errno)
		}
		for _, change := range []func(a *api.Act){
			func(a *api.Act) { a.Number = 0 },
			func(a *api.Act) { a.Title = "" },
			func(a *api.Act) { a.Day = -1 },
			func(a *api.Act) { a.Start = api.Start{} },
			func(a *api.Act) { a.Items = append(a.Items, bad) },
			func(a *api.Act) { a.Items = slices.Repeat(a.Items, 33) },
		} {
			b := copyOf(a)
			change(&b)
			if text, errno := act.Format(b); errno != api.ErrArg || text != "" {
				t.Error(errno)
			}
			checkAct(t, b)
		}
	}
}

// P18.1: Parse and its errors

const head = `act 4 "Fish Act" day 36 by order`

// TestHeads parses first segments that are not as they must be.
func TestHeads(t *testing.T) {
	for s, at := range map[string]int{
		"": 0, " ": 1, "\n \n": 3, ";": 0, " ;": 1, "; ;": 0, "repeal all;": 0, "4": 0, "act": 3, "act;": 3, "act ;": 4, "acts 4": 0, `"act"`: 0,
		"act 0;": 4, "act 4": 5, "act 4 ": 6, "act 1048577 ;": 4, "act 4A;": 4, "act a;": 4, `act "4";`: 4, "act 999999999999999999999999;": 4, "act 4;": 5,
		`act 4 Fish;`: 6, `act 4 "";`: 6, `act 4 " ";`: 6, `act 4 5;`: 6, `act 4 "a  b";`: 6, `act 4 "a";`: 9, `act 4 "a"`: 9, `act 4 "a" 5;`: 10, `act 4 "a" days;`: 10, `act 4 "a" "b";`: 10, `act 4 "a" day;`: 13, `act 4 "a" day`: 13, `act 4 "a" day by;`: 14, `act 4 "a" day 1048577;`: 14, `act 4 "a" day 5A;`: 14, `act 4 "a" day "5";`: 14,
		`act 4 "a" day 5;`: 15, `act 4 "a" day 5 `: 16, `act 4 "a" day 5 to;`: 16, `act 4 "a" day 5 7;`: 16, `act 4 "a" day 5 day;`: 16, `act 4 "a" day 5 from;`: 20, `act 4 "a" day 5 by;`: 18, `act 4 "a" day 5 on;`: 18, `act 4 "a" day 5 from 7;`: 21, `act 4 "a" day 5 by day 7;`: 19, `act 4 "a" day 5 on day 7;`: 19, `act 4 "a" day 5 "by" order;`: 16,
		`act 4 "a" day 5 from day;`: 24, `act 4 "a" day 5 from day 1048577;`: 25, `act 4 "a" day 5 from day a;`: 25, `act 4 "a" day 5 on event;`: 24, `act 4 "a" day 5 on event 5;`: 25, `act 4 "a" day 5 on event "a";`: 25, `act 4 "a" day 5 on event abcdefghijklmnopq;`: 25,
		`act 4 "a" day 5 by order by order;`: 25, `act 4 "a" day 5 by order repeal all;`: 25, `act 4 "a" day 5 from day 7 8;`: 27, `act 4 "a" day 5 from day 7 by order;`: 27, `act 4 "a" day 5 on event a b;`: 27, `act 4 "a" day 5 by order, repeal all;`: 24, `act 4 "a" day 5 read for a by order;`: 16,
		`act 4 "a" day 5 by order`: 24, `act 4 "a" day 5 by order ` + "\n": 26, `act 4 "a" day 5 from day 7 `: 27, `act 4 "a" day 5 on event a`: 26,
	} {
		expectRefused(t, s, at)
		if at < len(s) { // what follows does not matter
			expectRefused(t, s+" 5; repeal all all; repeal", at)
		}
		for range 2 { // nor do blanks in front
			s = "\n " + s
			at += 2
			expectRefused(t, s, at)
		}
	}
}

// TestHeadTokens leaves out each token of first segments, puts others in its place and in front of it, and exchanges every two neighbors.
func TestHeadTokens(t *testing.T) {
	pieces := append(strings.Fields("act day from by order on event all item peace abcdefghijklmnop abcdefghijklmnopq 0 1 1048576 1048577 999999999999999999999999 5A ; ; , ("), `"Fish Act"`, `""`, `"a  b"`, `"5"`, `"act"`)
	for _, rule := range []string{"from day 7", "by order", "on event peace"} {
		l := strings.Split(`act 4 "Fish" day 36 `+rule+" ; repeal all ;", " ")
		check := func(l []string) {
			checkParse(t, strings.Join(l, " "))
			checkParse(t, strings.Join(l, "\n \n"))
		}
		check(l)
		for i := range l {
			check(l[:i])
			check(slices.Delete(slices.Clone(l), i, i+1))
			for _, piece := range pieces {
				check(slices.Insert(slices.Clone(l), i, piece))
				other := slices.Clone(l)
				other[i] = piece
				check(other)
			}
			if i > 0 {
				other := slices.Clone(l)
				other[i], other[i-1] = other[i-1], other[i]
				check(other)
			}
		}
	}
}

// TestSegments parses acts with segments that are not as they must be.
func TestSegments(t *testing.T) {
	n := len(head)
	for s, at := range map[string]int{
		head: n, head + " ": n + 1, head + " \n\n": n + 3,
		head + ";;": n + 1, head + "; ;": n + 2, head + "; \n;": n + 3, head + ";;repeal all;": n + 1, head + ";repeal all;;": n + 12, head + ";repeal all; ;": n + 13, head + ";repeal all; \n ; repeal all;": n + 15, ";" + head + ";": 0,
		head + ";repeal all": n + 11, head + "; repeal all ": n + 13, head + ";repeal": n + 7, head + ";repeal;": n + 7, head + ";repeal \n ;": n + 10, head + "; repeal \n ": n + 11, head + ";repeal ;repeal all": n + 8,
		head + "; all;": n + 2, head + ";repeal all all;": n + 12, head + ";\n repeal all;\nrepeal section;": n + 29, head + ";\n repeal all;\n repeal section 0;": n + 31, head + "; repeal all; " + head + ";": n + 14, head + "; happen a on day 1 by order;": n + 20, head + "; commence act 0 from day 5; repeal": n + 15, head + ";repeal all;act": n + 12, head + ";5": n + 1, head + `;"repeal all";`: n + 1,
	} {
		expectRefused(t, s, at)
	}
	for _, s := range []string{head + ";", head + "; ", head + ";\n\n", "\n" + head + " \n;", head + ";repeal all;", head + ";repeal all;\n ", "  " + head + "\n;\nrepeal all\n;\nrepeal all\n;\n"} {
		if checkParse(t, s) != api.OK {
			t.Error(s)
		}
	}
}

// TestEveryItemRefused puts an item that is not valid at each place among others, and leaves out each semicolon.
func TestEveryItemRefused(t *testing.T) {
	for n := 1; n <= 32; n++ {
		for i := range n {
			l := slices.Repeat([]string{`in all for ";" put "" each`}, n)
			start := len(head) + 1 + i*(len(l[0])+2) + 1
			l[i] = "repeal all all"
			expectRefused(t, head+";\n"+strings.Join(l, ";\n")+";\n", start+11)
			l[i] = ""
			expectRefused(t, head+";\n"+strings.Join(l, ";\n")+";\n", start)
			l[i] = "repeal all"
			expectRefused(t, head+";\n"+strings.Join(l[:i+1], ";\n"), start+10)
			if i < n-1 {
				expectRefused(t, head+";\n"+strings.Replace(strings.Join(l, ";\n"), "repeal all;", "repeal all ", 1)+";", start+12)
			}
		}
	}
}

// TestManyItems parses acts with up to 34 items, and errors before, in and behind the 34th segment.
func TestManyItems(t *testing.T) {
	const one = " repeal all;"
	for n := range 33 {
		s := head + ";" + strings.Repeat(one, n)
		a, at, errno := act.Parse(s)
		if at != 0 || errno != api.OK || len(a.Items) != n {
			t.Error(n, at, errno)
		}
		for _, end := range []string{"", " ", "\n \n"} {
			if checkParse(t, s+end) != api.OK {
				t.Error(n)
			}
		}
	}
	full := head + ";" + strings.Repeat(one, 32)
	for more, at := range map[string]int{" repeal all;": 1, "repeal all;": 0, "\n\nrepeal all": 2, " all": 1, ";": 0, " \n;": 2, " ;;": 1, " repeal all; repeal all;": 1, " repeal all;;": 1, " ( )": 1} {
		a, got, errno := act.Parse(full + more)
		if got != len(full)+at || errno != api.ErrFull || !same(a, api.Act{}) {
			t.Errorf("%q: %d %d", more, got-len(full), errno)
		}
		checkParse(t, full+more)
	}
	long := head + ";" + strings.Repeat(one, 40)
	for i := range 40 { // an error before the 34th segment comes first
		at := len(head) + 2 + i*len(one)
		s := long[:at] + "repeal alls;" + long[at+len(one)-1:]
		_, got, errno := act.Parse(s)
		if i < 32 && (got != at+7 || errno != api.ErrForm) || i >= 32 && (got != len(head)+2+32*len(one) || errno != api.ErrFull) {
			t.Error(i, got, errno)
		}
		checkParse(t, s)
	}
}

// TestParseErrorOrder parses texts with two errors, of which the first one in the list counts.
func TestParseErrorOrder(t *testing.T) {
	pad := func(s string, n int) string { return s + strings.Repeat(" ", n-len(s)) }
	full := head + ";" + strings.Repeat("repeal all;", 33)
	for _, c := range []struct {
		s     string
		at    int
		errno api.Errno
	}{
		{pad(head+";", maxText), 0, api.OK},
		{pad(head+";", maxText+1), 0, api.ErrFull},
		{pad(head, maxText), maxText, api.ErrForm},
		{pad(head, maxText+1), 0, api.ErrFull},
		{pad(head+";?", maxText), len(head) + 1, api.ErrForm},
		{pad(head+";?", maxText+1), 0, api.ErrFull}, // before the error of token.Scan
		{pad("act act", maxText+1), 0, api.ErrFull}, // before an error of the first segment
		{pad(head+";act;", maxText+1), 0, api.ErrFull},
		{pad(full, maxText+1), 0, api.ErrFull},
		{"act act ?", 8, api.ErrForm},                                       // token.Scan before the first segment
		{head + "; all; ?", len(head) + 7, api.ErrForm},                     // token.Scan before an item
		{full + "?", len(full), api.ErrForm},                                // token.Scan before the 34th segment
		{head + " 05", len(head) + 1, api.ErrForm},                          // token.Scan before a missing semicolon
		{"act 0 act", 4, api.ErrForm},                                       // the first of two tokens
		{"act 0; repeal", 4, api.ErrForm},                                   // the first segment before an item
		{"act 4; ;", 5, api.ErrForm},                                        // the first segment before an empty one
		{"act" + full[len(head):], 3, api.ErrForm},                          // the first segment before the 34th
		{head + "; all; repeal", len(head) + 2, api.ErrForm},                // an item before the next one
		{head + "; all", len(head) + 2, api.ErrForm},                        // an item before its missing semicolon
		{strings.Replace(full, "all", "al", 1), len(head) + 8, api.ErrForm}, // an item before the 34th segment
		{full[:len(full)-1], len(full) - 11, api.ErrFull},                   // the 34th segment before its missing semicolon
		{full[:len(full)-2], len(full) - 11, api.ErrFull},                   // and before the error of its instruction
	} {
		a, at, errno := act.Parse(c.s)
		if at != c.at || errno != c.errno || errno != api.OK && !same(a, api.Act{}) {
			t.Errorf("%.60q: %d %d, want %d %d", c.s, at, errno, c.at, c.errno)
		}
		checkParse(t, c.s)
	}
}

// TestBeginnings parses every beginning of a text, and every text without one byte and with one more.
func TestBeginnings(t *testing.T) {
	text := textOf(fish(t))
	for i := range len(text) {
		checkParse(t, text[:i])
		checkParse(t, text[:i]+text[i+1:])
		for _, more := range []string{";", " ", "\n", `"`, "a", "0", "?"} {
			checkParse(t, text[:i]+more+text[i:])
		}
	}
}

// P18.3

// TestBlanks puts more blanks between the tokens, and none where none is needed.
func TestBlanks(t *testing.T) {
	r := rand.New(rand.NewSource(18))
	a := fish(t)
	text := textOf(a)
	tokens, _, _ := token.Scan(text)
	for n := range 500 {
		s := ""
		for _, x := range tokens {
			least := 1
			if x.Kind == api.TokenSign || x.Kind == api.TokenQuote || strings.HasSuffix(s, ";") || strings.HasSuffix(s, `"`) {
				least = n % 2
			}
			for range least + r.Intn(3)*(n%3) {
				s += string(" \n"[r.Intn(2)])
			}
			s += token.Format(x)
		}
		s += []string{"", "\n", "  \n"}[n%3]
		back, at, errno := act.Parse(s)
		again, e := act.Format(back)
		if at != 0 || errno != api.OK || again != text || e != api.OK || !same(back, a) {
			t.Fatalf("%q: %d %d", s, at, errno)
		}
		checkParse(t, s)
	}
}

// TestRandomActs formats and parses random acts, some of which are not valid.
func TestRandomActs(t *testing.T) {
	r := rand.New(rand.NewSource(183))
	all, counts := items(t), map[api.Errno]int{}
	pick := func(l ...int) int { return l[r.Intn(len(l))] }
	for range 1500 {
		a := api.Act{Number: pick(1, 2, 1<<20, r.Intn(1<<20)), Title: []string{"a", "Fish Act", `"\`}[r.Intn(3)], Day: pick(0, 1<<20, r.Intn(1<<20)), Start: api.Start{Kind: 1 + r.Intn(3)}}
		switch a.Start.Kind {
		case api.OnDay:
			a.Start.Day = pick(0, 1<<20, 7)
		case api.OnEvent:
			a.Start.Event = []string{"peace", "a-1"}[r.Intn(2)]
		}
		for range r.Intn(34) {
			a.Items = append(a.Items, all[r.Intn(len(all))])
		}
		if r.Intn(4) == 0 {
			l := changed(reflect.ValueOf(&a).Elem())
			a = l[r.Intn(len(l))].Interface().(api.Act)
		}
		counts[checkAct(t, a)]++
		if text, errno := act.Format(a); errno == api.OK {
			checkParse(t, text)
		}
	}
	if counts[api.OK] < 500 || counts[api.ErrArg] < 200 {
		t.Error(counts)
	}
}

// P18.1: Equal

// changed returns values that differ from a value in one place, each in another one.
func changed(v reflect.Value) []reflect.Value {
	var out []reflect.Value
	at := func(place reflect.Value, value reflect.Value) {
		old := normal(place)
		place.Set(value)
		out = append(out, normal(v))
		place.Set(old)
	}
	var visit func(place reflect.Value)
	visit = func(place reflect.Value) {
		switch place.Kind() {
		case reflect.Int:
			at(place, reflect.ValueOf(int(place.Int())+1))
		case reflect.String:
			at(place, reflect.ValueOf(place.String()+"x"))
		case reflect.Struct:
			for i := range place.NumField() {
				visit(place.Field(i))
			}
		case reflect.Slice:
			n := place.Len()
			at(place, reflect.Append(normal(place), reflect.Zero(place.Type().Elem())))
			if n > 0 {
				at(place, normal(place).Slice(0, n-1))
				visit(place.Index(n - 1))
			}
		}
	}
	visit(v)
	return out
}

// TestEqual compares acts with copies that differ in one place.
func TestEqual(t *testing.T) {
	event := bare()
	event.Start = api.Start{Kind: api.OnEvent, Event: "peace"}
	for _, a := range []api.Act{fish(t), bare(), event, {}, {Items: []api.Item{{Kind: -1}}}} {
		if !act.Equal(a, a) || !act.Equal(a, copyOf(a)) || !act.Equal(copyOf(a), a) {
			t.Error(a)
		}
		b := copyOf(a)
		for _, v := range changed(reflect.ValueOf(&b).Elem()) {
			if x := v.Interface().(api.Act); act.Equal(a, x) || act.Equal(x, a) {
				t.Errorf("%v is equal to %v", a, x)
			}
		}
		for i := range a.Items {
			b := copyOf(a)
			b.Items[i].Nth++
			if act.Equal(a, b) || act.Equal(b, a) {
				t.Error(i)
			}
			b = copyOf(a)
			b.Items[0], b.Items[i] = b.Items[i], b.Items[0]
			if act.Equal(a, b) != (i == 0) {
				t.Error(i)
			}
		}
	}
	for _, field := range []func(a *api.Act){
		func(a *api.Act) { a.Number++ }, func(a *api.Act) { a.Title = "b" }, func(a *api.Act) { a.Day++ }, func(a *api.Act) { a.Start.Kind = 0 }, func(a *api.Act) { a.Start.Day = 1 }, func(a *api.Act) { a.Start.Event = "e" }, func(a *api.Act) { a.Items = []api.Item{{}} },
	} {
		a := bare()
		field(&a)
		if act.Equal(a, bare()) || act.Equal(bare(), a) {
			t.Error(a)
		}
	}
	a, b := bare(), bare()
	b.Items = []api.Item{}
	if !act.Equal(a, b) || !act.Equal(b, a) {
		t.Error("nil and empty")
	}
	a.Items, b.Items = []api.Item{{New: []string{}, By: []api.Item{}}}, []api.Item{{At: []api.Step{}}}
	if !act.Equal(a, b) || !act.Equal(b, a) {
		t.Error("nil and empty below")
	}
}

// P18.2

func TestEnactedItems(t *testing.T) {
	odd := api.Item{Kind: 77, At: []api.Step{{Kind: 9}}, Nth: -5, By: []api.Item{{Kind: 11, By: []api.Item{{Kind: 3, Old: []string{""}}}}}}
	for _, a := range []api.Act{
		{}, bare(), fish(t), {Number: -3, Day: -4, Items: []api.Item{odd}}, {Number: math.MaxInt, Day: math.MinInt, Title: "\n", Start: api.Start{Kind: -1, Day: 7}, Items: slices.Concat(slices.Repeat([]api.Item{odd}, 40), items(t))}, {Items: make([]api.Item, 1000)},
	} {
		got := act.EnactedItems(a)
		if len(got) != len(a.Items) {
			t.Fatal(len(got))
		}
		for i, d := range got {
			if !same(d, api.EnactedItem{Act: a.Number, Item: i, Day: a.Day, It: a.Items[i]}) {
				t.Error(i, d)
			}
		}
	}
}

func TestWrittenWords(t *testing.T) {
	section, _, _ := plaintext.Parse("section 5: h1 h2 | w1\n  paragraph 1: h3 | w2 w3\n    paragraph 1 | w4\n  paragraph 2 | w5\n    note 1: h4\n  table 1: h5 | w6\n    row 1\n      cell 1 | w7\n")
	if section.Kind != api.Section {
		t.Fatal("section")
	}
	wild := api.Unit{Words: []api.Word{{Text: ""}, {Text: "a b"}}, Kids: []api.Unit{{Kind: 99, Head: []api.Word{{Text: "x"}}}}}
	old, new := []string{"o1", "o2"}, []string{"n1", "n2", "n1"}
	correction := api.Item{Kind: api.Heading, New: []string{"c"}}
	for _, c := range []struct {
		it   api.Item
		want string
	}{
		{api.Item{Unit: section}, "h1 h2 w1 h3 w2 w3 w4 w5 h4 h5 w6 w7"},
		{api.Item{Unit: section, Old: old, New: new}, "h1 h2 w1 h3 w2 w3 w4 w5 h4 h5 w6 w7"},
		{api.Item{Unit: wild}, "|a b|x"},
		{api.Item{}, ""},
		{api.Item{Kind: api.Repeal, Old: old, New: new, Unit: section}, ""},
		{api.Item{Kind: api.ReplaceWords, Old: old, New: new, Unit: section}, "n1 n2 n1"},
		{api.Item{Kind: api.ReplaceWords, Old: old}, ""},
		{api.Item{Kind: api.InsertWords, Old: old, New: new, Nth: -4}, "n1 n2 n1"},
		{api.Item{Kind: api.Heading, Old: old, New: new}, "n1 n2 n1"},
		{api.Item{Kind: api.Relabel, Label: "5", Old: old, New: new, Unit: section}, ""},
		{api.Item{Kind: api.Move, Old: old, New: new, Unit: section}, ""},
		{api.Item{Kind: api.Commence, Old: old, New: new, Unit: section}, ""},
		{api.Item{Kind: api.Expire, New: new}, ""},
		{api.Item{Kind: api.Revive, New: new}, ""},
		{api.Item{Kind: api.DeclareEvent, Event: "e", New: new}, ""},
		{api.Item{Kind: api.Correct, New: new, By: []api.Item{correction}}, ""},
		{api.Item{Kind: -1, New: new, Unit: section}, ""},
		{api.Item{Kind: 12, New: new, Unit: section}, ""},
	} {
		var want []string
		switch {
		case strings.Contains(c.want, "|"):
			want = strings.Split(c.want, "|")
		case c.want != "":
			want = strings.Split(c.want, " ")
		}
		if got := act.WrittenWords(api.Act{Number: -1, Items: []api.Item{c.it}}); !slices.Equal(got, want) {
			t.Errorf("%v: %q, want %q", c.it, got, want)
		}
		got := act.WrittenWords(api.Act{Items: []api.Item{correction, c.it, correction, {Kind: api.Repeal}, c.it}})
		if !slices.Equal(got, slices.Concat([]string{"c"}, want, []string{"c"}, want)) {
			t.Errorf("%v: %q", c.it, got)
		}
	}
	if len(act.WrittenWords(api.Act{})) != 0 || len(act.WrittenWords(bare())) != 0 {
		t.Error("no items")
	}
	if got := strings.Join(act.WrittenWords(fish(t)), " "); got != `of "ships" a b c d \ e new very new ; x of ships` {
		t.Error(got)
	}
}

// Memory

// spoil changes everything that a value refers to, up to the capacity of its slices.
func spoil(v reflect.Value) {
	switch v.Kind() {
	case reflect.Int:
		v.SetInt(-77)
	case reflect.String:
		v.SetString("spoiled")
	case reflect.Struct:
		for i := range v.NumField() {
			spoil(v.Field(i))
		}
	case reflect.Slice:
		whole := v.Slice(0, v.Cap())
		for i := range whole.Len() {
			spoil(whole.Index(i))
		}
	}
}

// roomy returns a copy of the value in which every slice, empty ones too, has room behind its end.
func roomy(v reflect.Value) reflect.Value {
	out := reflect.New(v.Type()).Elem()
	switch v.Kind() {
	case reflect.Struct:
		for i := range v.NumField() {
			out.Field(i).Set(roomy(v.Field(i)))
		}
	case reflect.Slice:
		out.Set(reflect.MakeSlice(v.Type(), 0, v.Len()+2))
		for i := range v.Len() {
			out.Set(reflect.Append(out, roomy(v.Index(i))))
		}
	default:
		out.Set(v)
	}
	return out
}

// TestMemory changes all memory of results and of arguments.
func TestMemory(t *testing.T) {
	want := fish(t)
	full := want.Items[0]
	full.To, full.Old, full.New, full.By = []api.Step{{}}, []string{"o"}, []string{"n"}, []api.Item{copyOf(want.Items[0])}
	want.Items = append(want.Items, full)
	for i := range want.Items {
		one := want
		one.Items = want.Items[i : i+1]
		checkMemory(t, one)
	}
	checkMemory(t, want)
	want.Items = want.Items[:len(want.Items)-1]
	text := textOf(want)
	a, _, _ := act.Parse(text)
	b, _, _ := act.Parse(text)
	spoil(reflect.ValueOf(&a).Elem())
	if c, _, _ := act.Parse(text); !same(b, want) || !same(c, want) {
		t.Error("Parse")
	}
	for i := range want.Items { // the items of one result share nothing
		a, _, _ := act.Parse(text)
		spoil(reflect.ValueOf(&a.Items[i]).Elem())
		for j := range a.Items {
			if i != j && !same(a.Items[j], want.Items[j]) {
				t.Error(i, j)
			}
		}
	}
}

// checkMemory expects that no function modifies the act, and that the results of EnactedItems and WrittenWords are new.
func checkMemory(t *testing.T, want api.Act) {
	t.Helper()
	a := roomy(reflect.ValueOf(want)).Interface().(api.Act)
	act.Valid(a)
	act.Format(a)
	act.Equal(a, want)
	l, words := act.EnactedItems(a), act.WrittenWords(a)
	kept, keptWords := copyOf(l), slices.Clone(words)
	again := act.EnactedItems(a)
	room := roomy(reflect.ValueOf(want)).Interface().(api.Act)
	if !reflect.DeepEqual(wholeOf(a), wholeOf(room)) {
		t.Error("an argument is modified")
	}
	spoil(reflect.ValueOf(&l).Elem())
	spoil(reflect.ValueOf(&words).Elem())
	if !reflect.DeepEqual(wholeOf(a), wholeOf(room)) || !same(again, kept) {
		t.Error("a result shares memory with the argument, or with another result")
	}
	l, words = act.EnactedItems(a), act.WrittenWords(a)
	spoil(reflect.ValueOf(&a).Elem())
	if !same(l, kept) || !slices.Equal(words, keptWords) {
		t.Error("a result shares memory with the argument")
	}
	for i := range again { // the elements of one result share nothing
		l := act.EnactedItems(want)
		spoil(reflect.ValueOf(&l[i]).Elem())
		for j := range l {
			if i != j && !same(l[j], kept[j]) {
				t.Error(i, j)
			}
		}
	}
}

// wholeOf returns a copy of the act in which every slice reaches up to its capacity.
func wholeOf(a api.Act) api.Act {
	var whole func(v reflect.Value) reflect.Value
	whole = func(v reflect.Value) reflect.Value {
		out := reflect.New(v.Type()).Elem()
		switch v.Kind() {
		case reflect.Struct:
			for i := range v.NumField() {
				out.Field(i).Set(whole(v.Field(i)))
			}
		case reflect.Slice:
			v = v.Slice(0, v.Cap())
			for i := range v.Len() {
				out.Set(reflect.Append(out, whole(v.Index(i))))
			}
		default:
			out.Set(v)
		}
		return out
	}
	return whole(reflect.ValueOf(a)).Interface().(api.Act)
}

// P1

// TestLongArguments gives long and deep arguments to all functions.
func TestLongArguments(t *testing.T) {
	const n = 1 << 16
	it, u := api.Item{Kind: api.Repeal}, api.Unit{Kind: api.Para, Label: "1"}
	for range n {
		it = api.Item{Kind: api.Correct, Act: 1, By: []api.Item{it}}
		u = api.Unit{Kind: api.Para, Label: "1", Words: []api.Word{{Text: "w"}}, Kids: []api.Unit{u}}
	}
	for _, l := range [][]api.Item{{it}, {{Unit: u}}, make([]api.Item, n)} {
		a := bare()
		a.Items = l
		if _, errno := act.Format(a); errno != api.ErrArg || act.Valid(a) || !act.Equal(a, a) || len(act.EnactedItems(a)) != len(l) {
			t.Error(errno)
		}
	}
	if got := act.WrittenWords(api.Act{Items: []api.Item{{Unit: u}}}); len(got) != n {
		t.Error(len(got))
	}
	if d := act.EnactedItems(api.Act{Items: []api.Item{{Unit: u}, it}}); !syntax.Equal(d[0].It, api.Item{Unit: u}) || !syntax.Equal(d[1].It, it) {
		t.Error("deep items")
	}
	for _, s := range []string{";", "act ", `"`, "\xff", " ", head + ";"} {
		if a, at, errno := act.Parse(strings.Repeat(s, n)); at != 0 || errno != api.ErrFull || !same(a, api.Act{}) {
			t.Error(s, at, errno)
		}
	}
	for _, s := range []string{";", "5;", "a;", "act ", " "} {
		checkParse(t, strings.Repeat(s, maxText/len(s)))
		checkParse(t, head+";"+strings.Repeat(s, (maxText-len(head)-1)/len(s)))
	}
}

// FuzzParse compares Parse with the model.
func FuzzParse(f *testing.F) {
	f.Add(textOf(fish(f)))
	f.Add(textOf(bare()))
	f.Fuzz(func(t *testing.T, s string) { checkParse(t, s) })
}
