package gazette_test

import (
	"fmt"
	"math"
	"reflect"
	"regexp"
	"slices"
	"strings"
	"testing"

	"pandect/act"
	"pandect/api"
	"pandect/gazette"
	"pandect/syntax"
	"pandect/token"
)

// The model: it follows the definitions.

const maxText = 16384

var digestForm = regexp.MustCompile(`\A[0-9a-f]{16}\z`)

// isValid reports whether the gazette is valid.
func isValid(g api.Gazette) bool {
	ok := g.Number >= 1 && g.Number <= 1048576 && g.Day >= 0 && g.Day <= 1048576 && len(g.Acts) <= 16
	for _, a := range g.Acts {
		ok = ok && act.Valid(a)
	}
	return ok && (g.Prior == "" || digestForm.MatchString(g.Prior))
}

// textOf returns the text of the gazette, or the error of Format.
func textOf(g api.Gazette) (string, api.Errno) {
	if !isValid(g) {
		return "", api.ErrArg
	}
	text := fmt.Sprintf("gazette %d day %d behind %q;\n", g.Number, g.Day, g.Prior)
	if g.Prior == "" {
		text = fmt.Sprintf("gazette %d day %d first;\n", g.Number, g.Day)
	}
	for _, a := range g.Acts {
		s, errno := act.Format(a)
		if errno != api.OK {
			return "", api.ErrFull
		}
		text += s
	}
	if len(text) > maxText {
		return "", api.ErrFull
	}
	return text, api.OK
}

// Comparison with the model.

// normal returns a copy of the value in which every empty slice is nil. It shares nothing with the value.
func normal(v reflect.Value) reflect.Value {
	return rebuilt(v, func(v reflect.Value) reflect.Value { return reflect.Zero(v.Type()) })
}

// rebuilt returns a copy of the value in which start returns what every slice is appended to.
func rebuilt(v reflect.Value, start func(v reflect.Value) reflect.Value) reflect.Value {
	out := reflect.New(v.Type()).Elem()
	switch v.Kind() {
	case reflect.Struct:
		for i := range v.NumField() {
			out.Field(i).Set(rebuilt(v.Field(i), start))
		}
	case reflect.Slice:
		out.Set(start(v))
		for i := range v.Len() {
			out.Set(reflect.Append(out, rebuilt(v.Index(i), start)))
		}
	default:
		out.Set(v)
	}
	return out
}

// copyOf returns a copy of the value that shares nothing with it.
func copyOf[T any](x T) T { return normal(reflect.ValueOf(x)).Interface().(T) }

// roomy returns a copy of the value in which every slice, empty ones too, has room behind its end.
func roomy[T any](x T) T {
	return rebuilt(reflect.ValueOf(x), func(v reflect.Value) reflect.Value { return reflect.MakeSlice(v.Type(), 0, v.Len()+2) }).Interface().(T)
}

// same reports whether two values are equal throughout, where nil and empty slices are equal.
func same[T any](a, b T) bool { return reflect.DeepEqual(copyOf(a), copyOf(b)) }

// checkGazette compares Valid, Format and Digest with the model, and Parse of the text if there is one. It returns the error of Format.
func checkGazette(t *testing.T, g api.Gazette) api.Errno {
	t.Helper()
	text, errno := textOf(g)
	if gazette.Valid(g) != (errno != api.ErrArg) {
		t.Fatalf("Valid(%v): %v", g, gazette.Valid(g))
	}
	if got, e := gazette.Format(g); got != text || e != errno {
		t.Fatalf("Format(%v): %q %d, want %q %d", g, got, e, text, errno)
	}
	if got := gazette.Digest(g); got != digestOf(g) {
		t.Fatalf("Digest(%v): %q", g, got)
	}
	if errno == api.OK {
		back, at, e := gazette.Parse(text)
		if e != api.OK || at != 0 || !same(back, g) || !gazette.Equal(back, g) {
			t.Fatalf("Parse(%q): %v %d %d", text, back, at, e)
		}
	}
	return errno
}

// expectValid expects what Valid returns, and compares all else with the model.
func expectValid(t *testing.T, g api.Gazette, want bool) {
	t.Helper()
	if gazette.Valid(g) != want {
		t.Errorf("Valid(%v): %v", g, !want)
	}
	checkGazette(t, g)
}

// Samples.

const (
	someDigest = "0123456789abcdef"
	farDigest  = "fedcba9876543210"
)

// parseAct returns the act with the given text.
func parseAct(t testing.TB, text string) api.Act {
	t.Helper()
	a, _, errno := act.Parse(text)
	if errno != api.OK {
		t.Fatal(text)
	}
	return a
}

// fish returns an act with several instructions, some of which contain quoted semicolons and the word act.
func fish(t testing.TB) api.Act {
	return parseAct(t, "act 4 \"Fish \\\"; Act\\\"\" day 36000 on event act;"+
		"into book first insert \"section 1: of \\\"ships\\\" | a b\n  paragraph 1: ; | act ; d \\\\\\\\\n  note 1 | e\n\" by order;"+
		`repeal section 3 from day 7; in section 5 for "act" put "; act" at 1;`+
		`commence act 4 item 2 from day 36191; happen peace on day 8; correct act 4 item 0 as head all as "act";`)
}

// bare returns a valid act without items.
func bare() api.Act {
	return api.Act{Number: 1, Title: "a", Start: api.Start{Kind: api.OnOrder}}
}

// samples returns valid gazettes with texts.
func samples(t testing.TB) []api.Gazette {
	return []api.Gazette{
		{Number: 1},
		{Number: 1, Day: 40, Acts: []api.Act{fish(t)}},
		{Number: 2, Day: 41, Prior: someDigest},
		{Number: 1 << 20, Day: 1 << 20, Prior: farDigest, Acts: []api.Act{bare(), fish(t), bare()}},
		{Number: 12, Day: 7, Acts: slices.Repeat([]api.Act{bare()}, 16)},
	}
}

// P19.1: the example, the text, and what is valid

func TestExample(t *testing.T) {
	text := "gazette 1 day 40 first;\nact 4 \"Fish Act\" day 36 by order;\nrepeal section 3;\n"
	want := api.Gazette{Number: 1, Day: 40, Acts: []api.Act{{Number: 4, Title: "Fish Act", Day: 36, Start: api.Start{Kind: api.OnOrder}, Items: []api.Item{{Kind: api.Repeal, At: []api.Step{{Kind: api.Section, Label: "3"}}}}}}}
	for _, s := range []string{text, strings.TrimSpace(text), "\n\n " + strings.ReplaceAll(text, "\n", "  ")} {
		g, at, errno := gazette.Parse(s)
		if at != 0 || errno != api.OK || !same(g, want) || !gazette.Equal(g, want) {
			t.Errorf("%q: %v %d %d", s, g, at, errno)
		}
	}
	if got, errno := gazette.Format(want); got != text || errno != api.OK || !gazette.Valid(want) {
		t.Error(got, errno)
	}
	if got := gazette.Digest(want); got != exampleDigest {
		t.Error(got)
	}
}

func TestTexts(t *testing.T) {
	for text, g := range map[string]api.Gazette{
		"gazette 1 day 0 first;\n":                                                           {Number: 1},
		"gazette 2 day 40 first;\n":                                                          {Number: 2, Day: 40},
		"gazette 1 day 40 behind \"0123456789abcdef\";\n":                                    {Number: 1, Day: 40, Prior: someDigest},
		"gazette 1048576 day 1048576 behind \"0000000000000000\";\n":                         {Number: 1 << 20, Day: 1 << 20, Prior: "0000000000000000"},
		"gazette 20 day 10 behind \"ffffffffffffffff\";\nact 1 \"a\" day 0 by order;\n":      {Number: 20, Day: 10, Prior: "ffffffffffffffff", Acts: []api.Act{bare()}},
		"gazette 7 day 5 first;\nact 1 \"a\" day 0 by order;\nact 1 \"a\" day 0 by order;\n": {Number: 7, Day: 5, Acts: []api.Act{bare(), bare()}},
		"gazette 7 day 5 first;\nact 3 \"; act\" day 9 from day 4;\nrepeal all;\nhappen act on day 8;\nact 2 \"day\" day 10 on event first;\nhead all as \"\";\n": {Number: 7, Day: 5, Acts: []api.Act{
			{Number: 3, Title: "; act", Day: 9, Start: api.Start{Kind: api.OnDay, Day: 4}, Items: []api.Item{{Kind: api.Repeal}, {Kind: api.DeclareEvent, Event: "act", Day: 8}}},
			{Number: 2, Title: "day", Day: 10, Start: api.Start{Kind: api.OnEvent, Event: "first"}, Items: []api.Item{{Kind: api.Heading}}},
		}},
	} {
		if got, errno := gazette.Format(g); got != text || errno != api.OK || !gazette.Valid(g) {
			t.Errorf("%q %d, want %q", got, errno, text)
		}
		if got, at, errno := gazette.Parse(text); at != 0 || errno != api.OK || !same(got, g) || !gazette.Equal(got, g) {
			t.Errorf("%q: %v %d %d", text, got, at, errno)
		}
		checkGazette(t, g)
		checkParse(t, text)
	}
	for _, g := range samples(t) {
		if checkGazette(t, g) != api.OK {
			t.Error(g)
		}
	}
}

func TestNumbersAndDays(t *testing.T) {
	for n, c := range map[int]struct{ number, day bool }{
		-1: {}, 0: {day: true}, 1: {true, true}, 2: {true, true}, 40: {true, true}, 1048575: {true, true}, 1048576: {true, true}, 1048577: {}, -1048576: {}, math.MinInt: {}, math.MaxInt: {}, 1 << 32: {}, 1<<32 + 1: {},
	} {
		for _, g := range samples(t) {
			changed := g
			changed.Number = n
			expectValid(t, changed, c.number)
			changed = g
			changed.Day = n
			expectValid(t, changed, c.day)
		}
	}
}

func TestPriors(t *testing.T) {
	for prior, want := range map[string]bool{
		"": true, someDigest: true, farDigest: true, "0000000000000000": true, "9999999999999999": true, "aaaaaaaaaaaaaaaa": true, "ffffffffffffffff": true,
		"0": false, "0123456789abcde": false, "0123456789abcdef0": false, "0123456789abcdef0123456789abcdef": false,
		"0123456789ABCDEF": false, "0123456789abcdeF": false, "A123456789abcdef": false, "0123456789abcdeg": false, "g123456789abcdef": false, "0123456g89abcdef": false,
		"0123456789abcd\u00e9": false, "\u00e90123456789abcd": false, "0123456\u00e99abcdef": false, "0123456789abcd\u00e9f": false, "0123456789abcde\xff": false, "\x800123456789abcde": false, "\u0660123456789abcde": false,
		" ": false, " 123456789abcdef": false, "0123456789abcde ": false, "0123456 89abcdef": false, "0123456789abcde\n": false, "0123456789abcdef\n": false, "0123456789abcde\x00": false, "/123456789abcdef": false, ":123456789abcdef": false, "`123456789abcdef": false, "+123456789abcdef": false,
		`"123456789abcdef`: false, `0123456789abcde\`: false, strings.Repeat("0", 1<<16): false,
	} {
		for _, g := range samples(t) {
			g.Prior = prior
			expectValid(t, g, want)
		}
		s := "gazette 2 day 5 behind " + token.Quote(prior) + ";"
		if g, at, errno := gazette.Parse(s); prior != "" && want != (errno == api.OK) || errno == api.OK && g.Prior != prior || errno == api.ErrForm && at != 23 {
			t.Errorf("%.60q: %d %d", s, at, errno)
		}
		checkParse(t, s)
	}
}

func TestActs(t *testing.T) {
	bad := []api.Act{{}, bare(), fish(t)}
	bad[1].Number = 0
	bad[2].Items[1].Nth = 1
	for n, want := range map[int]bool{0: true, 1: true, 2: true, 15: true, 16: true, 17: false, 18: false, 500: false} {
		for _, prior := range []string{"", someDigest} {
			g := api.Gazette{Number: 3, Day: 40, Prior: prior, Acts: slices.Repeat([]api.Act{bare()}, n)}
			expectValid(t, g, want)
			for i := range min(n, 17) {
				for _, a := range bad {
					other := copyOf(g)
					other.Acts[i] = a
					expectValid(t, other, false)
				}
				other := copyOf(g)
				other.Acts[i] = fish(t)
				expectValid(t, other, want)
			}
		}
	}
}

// The errors of Format

// padding returns words whose quoted text has so many bytes between its quotes.
func padding(bytes int) []string {
	word := func(n int) string { // two bytes for each backslash
		doubled := max(0, n-24)
		return strings.Repeat(`\`, doubled) + strings.Repeat("x", n-2*doubled)
	}
	var l []string
	for bytes > 48 {
		n := min(48, bytes-2)
		l = append(l, word(n))
		bytes -= n + 1
	}
	return append(l, word(bytes))
}

// longItem returns a valid instruction whose text has so many bytes, or would have.
func longItem(bytes int) api.Item {
	room := bytes - len(`in all for "" put "" each`)
	return api.Item{Kind: api.ReplaceWords, Old: padding(room / 2), New: padding(room - room/2)}
}

// longAct returns a valid act whose text has so many bytes, or would have.
func longAct(bytes int) api.Act {
	a := bare()
	a.Items = []api.Item{longItem(bytes - len("act 1 \"a\" day 0 by order;\n;\n"))}
	return a
}

func TestLongTexts(t *testing.T) {
	one := func(a api.Act) api.Gazette { return api.Gazette{Number: 3, Day: 40, Acts: []api.Act{a}} }
	expect := func(g api.Gazette, want api.Errno) {
		t.Helper()
		text, errno := gazette.Format(g)
		if errno != want || (text == "") != (want != api.OK) || !gazette.Valid(g) || (gazette.Digest(g) == "") != (want != api.OK) {
			t.Error(len(text), errno, want)
		}
		checkGazette(t, g)
	}
	for bytes, want := range map[int]api.Errno{maxText - 1: api.OK, maxText: api.OK, maxText + 1: api.ErrFull} {
		it := longItem(bytes) // an instruction of this length
		if text, errno := syntax.Format(it); !syntax.Valid(it) || errno != want || want == api.OK && len(text) != bytes {
			t.Fatal(bytes, len(text), errno)
		}
		a := bare()
		a.Items = []api.Item{it}
		expect(one(a), api.ErrFull)
		a = longAct(bytes) // an act of this length
		if text, errno := act.Format(a); errno != want || want == api.OK && len(text) != bytes {
			t.Fatal(bytes, len(text), errno)
		}
		expect(one(a), api.ErrFull)
		for _, g := range samples(t)[:4] { // the whole gazette
			text, _ := textOf(g)
			for i := range len(g.Acts) + 1 {
				long := copyOf(g)
				long.Acts = slices.Insert(long.Acts, i, longAct(bytes-len(text)))
				expect(long, want)
			}
		}
	}
	g := one(longAct(1100))
	g.Acts = slices.Repeat(g.Acts, 14)
	expect(g, api.OK)
	g.Acts = slices.Repeat(g.Acts[:1], 15)
	expect(g, api.ErrFull)
}

// TestFormatErrorOrder formats gazettes that are not valid and whose text, or that of an act or an instruction, would be too long.
func TestFormatErrorOrder(t *testing.T) {
	for _, acts := range [][]api.Act{{longAct(maxText)}, {longAct(maxText + 1)}, {longAct(maxText + 1000)}, {longAct(12000), longAct(12000)}} {
		g := api.Gazette{Number: 3, Day: 40, Prior: someDigest, Acts: acts}
		if checkGazette(t, g) != api.ErrFull {
			t.Error("not too long")
		}
		for _, change := range []func(g *api.Gazette){
			func(g *api.Gazette) { g.Number = 0 },
			func(g *api.Gazette) { g.Day = -1 },
			func(g *api.Gazette) { g.Prior = "0" },
			func(g *api.Gazette) { g.Acts = append(g.Acts, api.Act{}) },
			func(g *api.Gazette) { g.Acts = append([]api.Act{{}}, g.Acts...) },
			func(g *api.Gazette) { g.Acts = slices.Repeat(g.Acts, 17) },
			func(g *api.Gazette) { g.Acts[0].Items = append(g.Acts[0].Items, api.Item{Kind: -1}) },
		} {
			other := copyOf(g)
			change(&other)
			if text, errno := gazette.Format(other); errno != api.ErrArg || text != "" {
				t.Error(errno)
			}
			checkGazette(t, other)
		}
	}
}

// P19.1: Equal

// changed returns values that differ from a value in one place, each in another one.
func changed(v reflect.Value) []reflect.Value {
	var out []reflect.Value
	at := func(place reflect.Value, value reflect.Value) {
		old := normal(place)
		place.Set(value)
		out = append(out, normal(v))
		place.Set(old)
	}
	var visit func(place reflect.Value)
	visit = func(place reflect.Value) {
		switch place.Kind() {
		case reflect.Int:
			at(place, reflect.ValueOf(int(place.Int())+1))
		case reflect.String:
			at(place, reflect.ValueOf(place.String()+"x"))
		case reflect.Struct:
			for i := range place.NumField() {
				visit(place.Field(i))
			}
		case reflect.Slice:
			n := place.Len()
			at(place, reflect.Append(normal(place), reflect.Zero(place.Type().Elem())))
			for i := range n {
				at(place, reflect.AppendSlice(normal(place).Slice(0, i), place.Slice(i+1, n)))
				visit(place.Index(i))
			}
		}
	}
	visit(v)
	return out
}

// changesOf returns gazettes that differ from a gazette in one place.
func changesOf(g api.Gazette) []api.Gazette {
	var out []api.Gazette
	other := copyOf(g)
	for _, v := range changed(reflect.ValueOf(&other).Elem()) {
		out = append(out, v.Interface().(api.Gazette))
	}
	return out
}

func TestEqual(t *testing.T) {
	odd := api.Gazette{Number: -4, Day: -5, Prior: "\n", Acts: []api.Act{{}, {Items: []api.Item{{Kind: -1}}}}}
	for _, g := range append(samples(t), api.Gazette{}, odd) {
		if !gazette.Equal(g, g) || !gazette.Equal(g, copyOf(g)) || !gazette.Equal(copyOf(g), g) || !gazette.Equal(roomy(g), g) {
			t.Error(g)
		}
		for _, other := range changesOf(g) {
			if gazette.Equal(g, other) || gazette.Equal(other, g) {
				t.Errorf("%v is equal to %v", g, other)
			}
		}
		for i := range g.Acts {
			other := copyOf(g)
			other.Acts[0], other.Acts[i] = other.Acts[i], other.Acts[0]
			if gazette.Equal(g, other) != same(g, other) || gazette.Equal(other, g) != same(g, other) {
				t.Error(i)
			}
		}
	}
	g := api.Gazette{Number: 3, Day: 40, Prior: someDigest, Acts: []api.Act{bare()}}
	for _, change := range []func(g *api.Gazette){
		func(g *api.Gazette) { g.Number = 4 }, func(g *api.Gazette) { g.Day = 41 }, func(g *api.Gazette) { g.Prior = "" }, func(g *api.Gazette) { g.Acts = nil }, func(g *api.Gazette) { g.Acts[0].Number = 2 }, func(g *api.Gazette) { g.Acts[0].Items = []api.Item{{}} },
	} {
		other := copyOf(g)
		change(&other)
		if gazette.Equal(g, other) || gazette.Equal(other, g) {
			t.Error(other)
		}
	}
	a, b := api.Gazette{Number: 3}, api.Gazette{Number: 3, Acts: []api.Act{}}
	if !gazette.Equal(a, b) || !gazette.Equal(b, a) {
		t.Error("nil and empty")
	}
	a.Acts, b.Acts = []api.Act{{Items: []api.Item{}}}, []api.Act{{}}
	if !gazette.Equal(a, b) || !gazette.Equal(b, a) {
		t.Error("nil and empty below")
	}
}

// Memory

// spoil changes everything that a value refers to, up to the capacity of its slices.
func spoil(v reflect.Value) {
	switch v.Kind() {
	case reflect.Int:
		v.SetInt(-77)
	case reflect.String:
		v.SetString("spoiled")
	case reflect.Struct:
		for i := range v.NumField() {
			spoil(v.Field(i))
		}
	case reflect.Slice:
		whole := v.Slice(0, v.Cap())
		for i := range whole.Len() {
			spoil(whole.Index(i))
		}
	}
}

// whole returns a copy of the value in which every slice reaches up to its capacity.
func whole(v reflect.Value) reflect.Value {
	out := reflect.New(v.Type()).Elem()
	switch v.Kind() {
	case reflect.Struct:
		for i := range v.NumField() {
			out.Field(i).Set(whole(v.Field(i)))
		}
	case reflect.Slice:
		v = v.Slice(0, v.Cap())
		for i := range v.Len() {
			out.Set(reflect.Append(out, whole(v.Index(i))))
		}
	default:
		out.Set(v)
	}
	return out
}

// untouched reports whether a value that roomy has made of want is as it was, up to the capacity of its slices.
func untouched[T any](x, want T) bool {
	return reflect.DeepEqual(whole(reflect.ValueOf(x)).Interface(), whole(reflect.ValueOf(roomy(want))).Interface())
}

// TestArgumentsUnmodified expects that no function modifies the gazettes and acts that it is given.
func TestArgumentsUnmodified(t *testing.T) {
	for _, chain := range [][]api.Gazette{chainOf(t, 5), samples(t), {{Number: -1, Acts: []api.Act{{}}}, {}}} {
		l := roomy(chain)
		for i, g := range l {
			gazette.Valid(g)
			gazette.Format(g)
			gazette.Digest(g)
			gazette.Equal(g, l[0])
			gazette.CheckSuccessor(l[0], g)
			gazette.Next(l, g.Day, g.Acts...)
			gazette.Next(l[:i], 1<<20, g.Acts...)
		}
		gazette.CheckChain(l...)
		if !untouched(l, chain) {
			t.Error("an argument is modified")
		}
	}
}

// TestNewMemory changes all memory of results and of arguments.
func TestNewMemory(t *testing.T) {
	chain := chainOf(t, 3)
	acts := []api.Act{fish(t), bare(), fish(t)}
	l, given := roomy(chain), roomy(acts)
	want, _ := gazette.Next(chain, 99, acts...)
	want = copyOf(want)
	g, _ := gazette.Next(l, 99, given...)
	other, _ := gazette.Next(l, 99, given...)
	spoil(reflect.ValueOf(&g).Elem())
	if !untouched(l, chain) || !untouched(given, acts) || !same(other, want) {
		t.Error("the result of Next shares memory with an argument or another result")
	}
	spoil(reflect.ValueOf(&l).Elem())
	spoil(reflect.ValueOf(&given).Elem())
	if !same(other, want) {
		t.Error("the result of Next shares memory with an argument")
	}
	text, _ := textOf(want)
	make := map[string]func() api.Gazette{
		"Next":  func() api.Gazette { g, _ := gazette.Next(chain, 99, acts...); return g },
		"Parse": func() api.Gazette { g, _, _ := gazette.Parse(text); return g },
	}
	for name, result := range make {
		first, second := result(), result()
		spoil(reflect.ValueOf(&first).Elem())
		if !same(second, want) || !same(result(), want) {
			t.Error(name)
		}
		for i := range want.Acts { // the acts of one result share nothing
			g := result()
			spoil(reflect.ValueOf(&g.Acts[i]).Elem())
			for j := range g.Acts {
				if i != j && !same(g.Acts[j], want.Acts[j]) {
					t.Error(name, i, j)
				}
			}
		}
	}
}
