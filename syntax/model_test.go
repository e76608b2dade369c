package syntax_test

import (
	"fmt"
	"reflect"
	"regexp"
	"slices"
	"strconv"
	"strings"
	"testing"

	"pandect/address"
	"pandect/api"
	"pandect/plaintext"
	"pandect/syntax"
	"pandect/token"
	"pandect/unit"
)

// The model: it follows the tables of the chapter.

const maxText = 16384

var (
	nameForm  = regexp.MustCompile(`\A[a-z][-a-z0-9]{0,15}\z`)
	labelForm = regexp.MustCompile(`\A[1-9][0-9]{0,3}[A-Z]{0,3}\z`)
	wordForm  = regexp.MustCompile(`\A[!-~]{1,24}\z`)
	unitKinds = []string{"book", "part", "section", "paragraph", "table", "row", "cell", "note"}
)

// listed contains the fields of each row of the table of kinds.
var listed = map[int][]string{
	api.Insert:       {"At", "Where", "Unit", "For", "Start"},
	api.Repeal:       {"At", "For", "Start"},
	api.ReplaceWords: {"At", "Old", "New", "Nth", "For", "Start"},
	api.InsertWords:  {"At", "Old", "New", "Nth", "For", "Start"},
	api.Heading:      {"At", "New", "For", "Start"},
	api.Relabel:      {"At", "Label", "For", "Start"},
	api.Move:         {"At", "To", "Where", "For", "Start"},
	api.Commence:     {"Act", "Item", "Day"},
	api.Expire:       {"Act", "Item", "Day"},
	api.Revive:       {"Act", "Item", "Day"},
	api.DeclareEvent: {"Event", "Day"},
	api.Correct:      {"Act", "Item", "By"},
}

// fieldNames returns the names of all fields of an instruction but for its kind.
func fieldNames() []string {
	var l []string
	for f := range reflect.TypeFor[api.Item]().Fields() {
		if f.Name != "Kind" {
			l = append(l, f.Name)
		}
	}
	return l
}

// isEmpty reports whether a value is zero, or empty, throughout.
func isEmpty(v reflect.Value) bool {
	switch v.Kind() {
	case reflect.Slice:
		return v.Len() == 0
	case reflect.Struct:
		for i := range v.NumField() {
			if !isEmpty(v.Field(i)) {
				return false
			}
		}
		return true
	}
	return v.IsZero()
}

// isValid reports whether the instruction is valid.
func isValid(it api.Item) bool {
	fields, ok := listed[it.Kind]
	if !ok {
		return false
	}
	for _, name := range fieldNames() {
		if slices.Contains(fields, name) && !isGood(it, name) {
			return false
		}
		if !slices.Contains(fields, name) && !isEmpty(reflect.ValueOf(it).FieldByName(name)) {
			return false
		}
	}
	return true
}

// isGood reports whether a field that is listed for the kind of the instruction is as the table says.
func isGood(it api.Item, name string) bool {
	within := func(n, from, to int) bool { return n >= from && n <= to }
	switch name {
	case "At":
		return isAddress(it.At)
	case "To":
		return isAddress(it.To)
	case "Where":
		return within(it.Where, 0, 3)
	case "Nth":
		return within(it.Nth, 0, 256) && (it.Nth == 0 || len(it.Old) > 0)
	case "Unit":
		return isInsertable(it.Unit)
	case "Old":
		return isSequence(it.Old) && (it.Kind == api.InsertWords || len(it.Old) > 0)
	case "New":
		return isSequence(it.New) && (it.Kind != api.InsertWords || len(it.New) > 0)
	case "Label":
		return labelForm.MatchString(it.Label)
	case "For":
		return it.For == "" || nameForm.MatchString(it.For)
	case "Start":
		return isStart(it.Start)
	case "Act":
		return within(it.Act, 1, 1<<20)
	case "Item":
		return within(it.Item, 0, 31) || it.Item == -1 && it.Kind != api.Correct
	case "Day":
		return within(it.Day, 0, 1<<20)
	case "Event":
		return nameForm.MatchString(it.Event)
	}
	return len(it.By) == 1 && within(it.By[0].Kind, 0, 6) && isValid(it.By[0]) // By
}

// isAddress reports whether the steps are a valid address.
func isAddress(p []api.Step) bool {
	for i, s := range p {
		isBook := i == 0 && s == api.Step{}
		if !isBook && (s.Kind < 1 || s.Kind > 7 || !labelForm.MatchString(s.Label)) {
			return false
		}
	}
	return len(p) <= 9
}

// isSequence reports whether the strings are a valid word sequence.
func isSequence(l []string) bool {
	return len(l) <= 256 && !slices.ContainsFunc(l, func(s string) bool { return !wordForm.MatchString(s) })
}

// isInsertable reports whether the unit can be inserted.
func isInsertable(u api.Unit) bool {
	_, errno := plaintext.Format(u)
	return unit.IsBare(u) && u.Kind != api.Book && errno == api.OK
}

// isStart reports whether an amendment can have the start.
func isStart(s api.Start) bool {
	switch s.Kind {
	case api.OnDay:
		return s.Day >= 0 && s.Day <= 1<<20 && s.Event == ""
	case api.OnEvent:
		return s.Day == 0 && nameForm.MatchString(s.Event)
	}
	return s == api.Start{} || s == api.Start{Kind: api.OnOrder}
}

// forms contains the texts of the table of texts. Those of Insert, InsertWords and Move depend on a field.
var forms = map[string]string{
	"0.0": `into AT first insert UNIT`, "0.1": `into AT last insert UNIT`, "0.2": `behind AT insert UNIT`, "0.3": `ahead of AT insert UNIT`,
	"1":   `repeal AT`,
	"2":   `in AT for OLD put NEW NTH`,
	"3":   `in AT behind OLD put NEW NTH`,
	"3.0": `in AT ahead of all put NEW`,
	"4":   `head AT as NEW`,
	"5":   `number AT as LABEL`,
	"6.0": `move AT into TO first`, "6.1": `move AT into TO last`, "6.2": `move AT behind TO`, "6.3": `move AT ahead of TO`,
	"7":  `commence act ACT ITEM from day DAY`,
	"8":  `expire act ACT ITEM from day DAY`,
	"9":  `revive act ACT ITEM from day DAY`,
	"10": `happen EVENT on day DAY`,
	"11": `correct act ACT ITEM as BY`,
}

// formOf returns the form of the instruction's text.
func formOf(it api.Item) string {
	key := fmt.Sprint(it.Kind)
	switch it.Kind {
	case api.Insert, api.Move:
		key += fmt.Sprint(".", it.Where)
	case api.InsertWords:
		if len(it.Old) == 0 {
			key += ".0"
		}
	}
	return forms[key]
}

// textOf returns the text of a valid instruction.
func textOf(it api.Item) string {
	var out []string
	for _, piece := range strings.Fields(formOf(it)) {
		if part := partOf(it, piece); part != "" {
			out = append(out, part)
		}
	}
	if it.For != "" {
		out = append(out, "read for "+it.For)
	}
	switch it.Start.Kind {
	case api.OnDay:
		out = append(out, fmt.Sprint("from day ", it.Start.Day))
	case api.OnOrder:
		out = append(out, "by order")
	case api.OnEvent:
		out = append(out, "on event "+it.Start.Event)
	}
	return strings.Join(out, " ")
}

// partOf returns what stands in a text for a piece of its form.
func partOf(it api.Item, piece string) string {
	switch piece {
	case "AT":
		return addressText(it.At)
	case "TO":
		return addressText(it.To)
	case "UNIT":
		text, _ := plaintext.Format(it.Unit)
		return quoted(text)
	case "OLD":
		return quoted(strings.Join(it.Old, " "))
	case "NEW":
		return quoted(strings.Join(it.New, " "))
	case "NTH":
		if it.Nth == 0 {
			return "each"
		}
		return fmt.Sprint("at ", it.Nth)
	case "LABEL":
		return it.Label
	case "ACT":
		return fmt.Sprint(it.Act)
	case "ITEM":
		if it.Item == -1 {
			return ""
		}
		return fmt.Sprint("item ", it.Item)
	case "DAY":
		return fmt.Sprint(it.Day)
	case "EVENT":
		return it.Event
	case "BY":
		return textOf(it.By[0])
	}
	return piece
}

// addressText returns the text of an address.
func addressText(p []api.Step) string {
	var l []string
	for _, s := range p {
		l = append(l, strings.TrimSuffix(unitKinds[s.Kind]+" "+s.Label, " "))
	}
	if len(l) == 0 {
		return "all"
	}
	return strings.Join(l, " ")
}

// quoted returns the text between quotes, escaped byte by byte.
func quoted(text string) string {
	out := []byte{'"'}
	for i := range len(text) {
		if text[i] == '"' || text[i] == '\\' {
			out = append(out, '\\')
		}
		out = append(out, text[i])
	}
	return string(append(out, '"'))
}

// The grammar: it is read with all its alternatives at once.

// rule returns the indices of the tokens that can follow a phrase that begins at the index at. It tells reach of every token that can stand where it does.
type rule func(tokens []api.Token, at int, reach *int) []int

// one is the rule for one token.
func one(fits func(t api.Token) bool) rule {
	return func(tokens []api.Token, at int, reach *int) []int {
		if at == len(tokens) || !fits(tokens[at]) {
			return nil
		}
		*reach = max(*reach, at+1)
		return []int{at + 1}
	}
}

// seq is the rule for phrases one behind the other.
func seq(l ...rule) rule {
	return func(tokens []api.Token, at int, reach *int) []int {
		ends := []int{at}
		for _, r := range l {
			var next []int
			for _, end := range ends {
				next = append(next, r(tokens, end, reach)...)
			}
			slices.Sort(next)
			ends = slices.Compact(next)
		}
		return ends
	}
}

// alt is the rule for one of some phrases.
func alt(l ...rule) rule {
	return func(tokens []api.Token, at int, reach *int) []int {
		var ends []int
		for _, r := range l {
			ends = append(ends, r(tokens, at, reach)...)
		}
		slices.Sort(ends)
		return slices.Compact(ends)
	}
}

// opt is the rule for a phrase that can be left out.
func opt(l ...rule) rule { return alt(seq(), seq(l...)) }

// upTo is the rule for a phrase that stands up to n times.
func upTo(n int, r rule) rule {
	if n == 0 {
		return seq()
	}
	return opt(r, upTo(n-1, r))
}

// lit is the rule for words.
func lit(words string) rule {
	var l []rule
	for _, word := range strings.Fields(words) {
		l = append(l, one(func(t api.Token) bool { return t.Kind == api.TokenWord && t.Text == word }))
	}
	return seq(l...)
}

// num is the rule for a number.
func num(from, to int) rule {
	return one(func(t api.Token) bool {
		n, err := strconv.ParseInt(t.Text, 10, 32)
		return t.Kind == api.TokenNumber && err == nil && int(n) >= from && int(n) <= to
	})
}

// sequence is the rule for a quoted word sequence.
func sequence(least int) rule {
	return one(func(t api.Token) bool {
		var l []string
		if t.Text != "" {
			l = strings.Split(t.Text, " ")
		}
		return t.Kind == api.TokenQuote && isSequence(l) && len(l) >= least
	})
}

// form is the rule for a form in which each upper-case piece has a rule.
func form(s string, parts map[string]rule) rule {
	var l []rule
	for _, piece := range strings.Fields(s) {
		if r, ok := parts[piece]; ok {
			l = append(l, r)
		} else {
			l = append(l, lit(piece))
		}
	}
	return seq(l...)
}

// grammar returns the rule for an instruction.
func grammar() rule {
	name := one(func(t api.Token) bool { return t.Kind == api.TokenWord && nameForm.MatchString(t.Text) })
	label := one(func(t api.Token) bool {
		return (t.Kind == api.TokenNumber || t.Kind == api.TokenLabel) && labelForm.MatchString(t.Text)
	})
	step := seq(one(func(t api.Token) bool { return t.Kind == api.TokenWord && slices.Contains(unitKinds[1:], t.Text) }), label)
	path := alt(lit("all"), seq(lit("book"), upTo(8, step)), seq(step, upTo(8, step)))
	inserted := one(func(t api.Token) bool {
		u, _, errno := plaintext.Parse(t.Text)
		return t.Kind == api.TokenQuote && errno == api.OK && u.Kind != api.Book
	})
	day := num(0, 1<<20)
	parts := map[string]rule{
		"AT": path, "TO": path, "UNIT": inserted, "LABEL": label, "OLD": sequence(1), "NEW": sequence(0), "NTH": alt(lit("each"), seq(lit("at"), num(1, 256))),
		"ACT": num(1, 1<<20), "ITEM": opt(lit("item"), num(0, 31)), "DAY": day, "EVENT": name,
	}
	some := map[string]rule{"AT": parts["AT"], "OLD": parts["OLD"], "NEW": sequence(1), "NTH": parts["NTH"]}
	ending := seq(opt(lit("read for"), name), opt(alt(seq(lit("from day"), day), lit("by order"), seq(lit("on event"), name))))
	var amendments, orders []rule
	for key, s := range forms {
		kind, _ := strconv.Atoi(strings.Split(key, ".")[0])
		switch {
		case kind == api.InsertWords:
			amendments = append(amendments, seq(form(s, some), ending))
		case kind <= api.Move:
			amendments = append(amendments, seq(form(s, parts), ending))
		case kind != api.Correct:
			orders = append(orders, form(s, parts))
		}
	}
	correct := form(forms["11"], map[string]rule{"ACT": parts["ACT"], "ITEM": seq(lit("item"), num(0, 31)), "BY": alt(amendments...)})
	return alt(append(append(orders, amendments...), correct)...)
}

// instruction is the rule for an instruction.
var instruction = grammar()

// refusal returns the offset and the error that Parse returns, or the tokens if there is no error.
func refusal(s string) ([]api.Token, int, api.Errno) {
	if len(s) > maxText {
		return nil, 0, api.ErrFull
	}
	tokens, at, errno := token.Scan(s)
	if errno != api.OK {
		return nil, at, errno
	}
	reach := 0
	if slices.Contains(instruction(tokens, 0, &reach), len(tokens)) {
		return tokens, 0, api.OK
	}
	if reach < len(tokens) {
		return nil, tokens[reach].At, api.ErrForm
	}
	return nil, len(s), api.ErrForm
}

// Comparison with the model.

// isZero reports whether all fields of the instruction are zero or empty.
func isZero(it api.Item) bool { return isEmpty(reflect.ValueOf(it)) }

// checkItem compares Valid and Format with the model, and Parse of the text if there is one. It returns the text.
func checkItem(t *testing.T, it api.Item) string {
	t.Helper()
	text, errno := "", api.ErrArg
	if isValid(it) {
		text, errno = textOf(it), api.OK
	}
	if syntax.Valid(it) != (errno == api.OK) {
		t.Fatalf("Valid(%v): %v", it, syntax.Valid(it))
	}
	if len(text) > maxText {
		text, errno = "", api.ErrFull
	}
	got, e := syntax.Format(it)
	if got != text || e != errno {
		t.Fatalf("Format(%v): %q %d, want %q %d", it, got, e, text, errno)
	}
	if errno != api.OK {
		return ""
	}
	back, at, e := syntax.Parse(text)
	if e != api.OK || at != 0 || !syntax.Equal(back, it) || !same(back, it) {
		t.Fatalf("Parse(%q): %v %d %d", text, back, at, e)
	}
	return text
}

// checkParse compares Parse with the model, for any string. It returns the error.
func checkParse(t *testing.T, s string) api.Errno {
	t.Helper()
	tokens, at, errno := refusal(s)
	it, gotAt, e := syntax.Parse(s)
	if gotAt != at || e != errno {
		t.Fatalf("Parse(%q): %d %d, want %d %d", s, gotAt, e, at, errno)
	}
	if errno != api.OK {
		if !isZero(it) {
			t.Fatalf("Parse(%q): %v", s, it)
		}
		return errno
	}
	if !isValid(it) || textOf(it) != token.Format(tokens...) {
		t.Fatalf("Parse(%q): %v", s, it)
	}
	checkItem(t, it)
	return errno
}

// same reports whether two instructions are equal in all fields, where nil and empty slices are equal.
func same(a, b api.Item) bool {
	return reflect.DeepEqual(normal(reflect.ValueOf(a)).Interface(), normal(reflect.ValueOf(b)).Interface())
}

// normal returns a copy of the value in which every empty slice is nil. It shares nothing with the value.
func normal(v reflect.Value) reflect.Value {
	out := reflect.New(v.Type()).Elem()
	switch v.Kind() {
	case reflect.Struct:
		for i := range v.NumField() {
			out.Field(i).Set(normal(v.Field(i)))
		}
	case reflect.Slice:
		for i := range v.Len() {
			out.Set(reflect.Append(out, normal(v.Index(i))))
		}
	default:
		out.Set(v)
	}
	return out
}

// copyOf returns a copy of the instruction that shares nothing with it.
func copyOf(it api.Item) api.Item { return normal(reflect.ValueOf(it)).Interface().(api.Item) }

// Samples.

// steps returns the address with the given text, or the steps of kinds and labels that are not valid.
func steps(t testing.TB, text string) []api.Step {
	t.Helper()
	p, errno := address.Parse(text)
	if errno != api.OK {
		t.Fatal(text)
	}
	return p
}

// words returns the pieces of the text between its spaces.
func words(text string) []string {
	if text == "" {
		return nil
	}
	return strings.Split(text, " ")
}

// marked returns the pieces of the text between its spaces as words without marks.
func marked(text string) []api.Word {
	var l []api.Word
	for _, s := range words(text) {
		l = append(l, api.Word{Text: s})
	}
	return l
}

// unitOf returns a unit with the words of two texts as its heading and its body.
func unitOf(kind int, label, head, body string, kids ...api.Unit) api.Unit {
	return api.Unit{Kind: kind, Label: label, Head: marked(head), Words: marked(body), Kids: kids}
}

// sampleUnit returns a section with units of most kinds, whose words hold quotes, backslashes and bars.
func sampleUnit() api.Unit {
	table := unitOf(api.Table, "1", "duties", "", unitOf(api.Row, "1", "", "", unitOf(api.Cell, "1", "", `salt "x"`), unitOf(api.Cell, "2", `\`, `a\b "`)), unitOf(api.Row, "2", "", ""))
	return unitOf(api.Section, "5A", `of "ships"`, `| a \ |`, unitOf(api.Para, "1", "", "e ^1", table), unitOf(api.Note, "1", "see: 5", ""))
}

// starts returns starts of each kind, the zero one first.
func starts() []api.Start {
	return []api.Start{{}, {Kind: api.OnDay, Day: 36191}, {Kind: api.OnDay}, {Kind: api.OnOrder}, {Kind: api.OnEvent, Event: "the-end-2"}}
}

// plainSamples returns valid instructions of every row and every text of the tables, the amendments among them without a purpose and a start.
func plainSamples(t testing.TB) []api.Item {
	at, to := steps(t, "section 5 paragraph 2A"), steps(t, "book part 2")
	var l []api.Item
	for where := api.First; where <= api.Before; where++ {
		l = append(l, api.Item{Kind: api.Insert, At: at, Where: where, Unit: sampleUnit()}, api.Item{Kind: api.Move, At: at, To: to, Where: where})
	}
	l = append(l,
		api.Item{Kind: api.Insert, Unit: unitOf(api.Part, "1", "", "")},
		api.Item{Kind: api.Move, Where: api.Last},
		api.Item{Kind: api.Repeal, At: at},
		api.Item{Kind: api.Repeal},
		api.Item{Kind: api.ReplaceWords, At: at, Old: words("old words"), New: words("new"), Nth: 1},
		api.Item{Kind: api.ReplaceWords, At: at, Old: words(`"old" \`)},
		api.Item{Kind: api.InsertWords, At: at, Old: words(`old`), New: words(`a \" b`), Nth: 256},
		api.Item{Kind: api.InsertWords, At: at, Old: words(`old`), New: words(`"new"`)},
		api.Item{Kind: api.InsertWords, At: to, New: words("new words")},
		api.Item{Kind: api.Heading, At: at, New: words("of ships")},
		api.Item{Kind: api.Heading, At: to},
		api.Item{Kind: api.Relabel, At: at, Label: "12"},
		api.Item{Kind: api.Relabel, At: to, Label: "12AB"},
	)
	for kind := api.Commence; kind <= api.Revive; kind++ {
		l = append(l, api.Item{Kind: kind, Act: 4, Item: 2, Day: 36191}, api.Item{Kind: kind, Act: 1 << 20, Item: -1}, api.Item{Kind: kind, Act: 1, Day: 1 << 20})
	}
	return append(l, api.Item{Kind: api.DeclareEvent, Event: "the-end-2", Day: 7}, api.Item{Kind: api.DeclareEvent, Event: "on"})
}

// samples returns valid instructions of every row and every text of the tables, with purposes and starts, and corrections of them.
func samples(t testing.TB) []api.Item {
	var l []api.Item
	for i, it := range plainSamples(t) {
		l = append(l, it)
		if !syntax.IsAmendment(it.Kind) {
			continue
		}
		for j, start := range starts() {
			with := it
			with.Start = start
			if j > 0 {
				l = append(l, with)
			}
			with.For = []string{"trade", "read", "from"}[(i+j)%3]
			l = append(l, with, api.Item{Kind: api.Correct, Act: 3 + i, Item: (i + j) % 32, By: []api.Item{with}})
		}
	}
	return l
}
