package syntax_test

import (
	"fmt"
	"math"
	"math/rand"
	"reflect"
	"slices"
	"strings"
	"testing"

	"pandect/api"
	"pandect/plaintext"
	"pandect/syntax"
)

// expectItem expects that the text is that of the instruction.
func expectItem(t *testing.T, text string, it api.Item) {
	t.Helper()
	if got, errno := syntax.Format(it); got != text || errno != api.OK || !syntax.Valid(it) {
		t.Errorf("Format(%v): %q %d, want %q", it, got, errno, text)
	}
	got, at, errno := syntax.Parse(text)
	if at != 0 || errno != api.OK || !same(got, it) || !syntax.Equal(got, it) {
		t.Errorf("Parse(%q): %v %d %d", text, got, at, errno)
	}
	checkItem(t, it)
	checkParse(t, text)
}

// expectRefused expects the offset of an ErrForm.
func expectRefused(t *testing.T, s string, at int) {
	t.Helper()
	it, got, errno := syntax.Parse(s)
	if got != at || errno != api.ErrForm || !isZero(it) {
		t.Errorf("Parse(%q): %v %d %d, want %d", s, it, got, errno, at)
	}
	checkParse(t, s)
}

// expectValid expects that the instruction is valid, or not.
func expectValid(t *testing.T, it api.Item, want bool) {
	t.Helper()
	if syntax.Valid(it) != want {
		t.Errorf("Valid(%v): %v", it, !want)
	}
	checkItem(t, it)
	if _, errno := syntax.Format(it); !want && errno != api.ErrArg {
		t.Errorf("Format(%v): %d", it, errno)
	}
}

// P17.1: the examples and the texts of all kinds

func TestExamples(t *testing.T) {
	at := []api.Step{{Kind: api.Section, Label: "5"}, {Kind: api.Para, Label: "2"}}
	expectItem(t, `in section 5 paragraph 2 for "old words" put "new" at 1`, api.Item{Kind: api.ReplaceWords, At: at, Old: []string{"old", "words"}, New: []string{"new"}, Nth: 1})
	expectItem(t, `commence act 4 item 2 from day 36191`, api.Item{Kind: api.Commence, Act: 4, Item: 2, Day: 36191})
	expectItem(t, `move section 5 into part 2 last by order`, api.Item{Kind: api.Move, At: at[:1], To: []api.Step{{Kind: api.Part, Label: "2"}}, Where: api.Last, Start: api.Start{Kind: api.OnOrder}})
}

func TestTexts(t *testing.T) {
	at, to := []api.Step{{Kind: api.Section, Label: "5"}, {Kind: api.Para, Label: "2A"}}, []api.Step{{}, {Kind: api.Part, Label: "1"}}
	note := api.Unit{Kind: api.Note, Label: "1", Words: []api.Word{{Text: "a"}}}
	para := api.Unit{Kind: api.Para, Label: "7", Head: marked(`"of" \`), Kids: []api.Unit{note}}
	for text, it := range map[string]api.Item{
		"into section 5 paragraph 2A first insert \"note 1 | a\n\"":                           {At: at, Unit: note},
		"into all last insert \"note 1 | a\n\"":                                               {Where: api.Last, Unit: note},
		"behind book part 1 insert \"note 1 | a\n\"":                                          {At: to, Where: api.After, Unit: note},
		"ahead of book insert \"note 1 | a\n\"":                                               {At: to[:1], Where: api.Before, Unit: note},
		"into all first insert \"paragraph 7: \\\"of\\\" \\\\\\\\\n  note 1 | a\n\" by order": {Unit: para, Start: api.Start{Kind: api.OnOrder}},
		"behind all insert \"note 1 | a\n\" read for all from day 0":                          {Where: api.After, Unit: note, For: "all", Start: api.Start{Kind: api.OnDay}},

		"repeal section 5 paragraph 2A":              {Kind: api.Repeal, At: at},
		"repeal all":                                 {Kind: api.Repeal},
		"repeal book":                                {Kind: api.Repeal, At: to[:1]},
		"repeal all read for trade":                  {Kind: api.Repeal, For: "trade"},
		"repeal all from day 1048576":                {Kind: api.Repeal, Start: api.Start{Kind: api.OnDay, Day: 1048576}},
		"repeal all by order":                        {Kind: api.Repeal, Start: api.Start{Kind: api.OnOrder}},
		"repeal all on event on":                     {Kind: api.Repeal, Start: api.Start{Kind: api.OnEvent, Event: "on"}},
		"repeal all read for on on event from":       {Kind: api.Repeal, For: "on", Start: api.Start{Kind: api.OnEvent, Event: "from"}},
		"repeal all read for a from day 36191":       {Kind: api.Repeal, For: "a", Start: api.Start{Kind: api.OnDay, Day: 36191}},
		"repeal all read for read by order":          {Kind: api.Repeal, For: "read", Start: api.Start{Kind: api.OnOrder}},
		"repeal part 1 table 1 row 1 cell 1 note 1Z": {Kind: api.Repeal, At: []api.Step{{Kind: 1, Label: "1"}, {Kind: 4, Label: "1"}, {Kind: 5, Label: "1"}, {Kind: 6, Label: "1"}, {Kind: 7, Label: "1Z"}}},

		`in all for "a b" put "c d" each`:                       {Kind: api.ReplaceWords, Old: words("a b"), New: words("c d")},
		`in all for "a" put "" at 256`:                          {Kind: api.ReplaceWords, Old: words("a"), Nth: 256},
		`in book part 1 for "\"\\" put "\\\"" at 2 by order`:    {Kind: api.ReplaceWords, At: to, Old: words(`"\`), New: words(`\"`), Nth: 2, Start: api.Start{Kind: api.OnOrder}},
		`in book behind "a" put "b" each`:                       {Kind: api.InsertWords, At: to[:1], Old: words("a"), New: words("b")},
		`in book behind "a b" put "b" at 1 read for x`:          {Kind: api.InsertWords, At: to[:1], Old: words("a b"), New: words("b"), Nth: 1, For: "x"},
		`in book ahead of all put "b c"`:                        {Kind: api.InsertWords, At: to[:1], New: words("b c")},
		`in all ahead of all put "b" on event e`:                {Kind: api.InsertWords, New: words("b"), Start: api.Start{Kind: api.OnEvent, Event: "e"}},
		`head all as ""`:                                        {Kind: api.Heading},
		`head book part 1 as "of ;,:.() A-Z"`:                   {Kind: api.Heading, At: to, New: words("of ;,:.() A-Z")},
		`head all as "a" read for b from day 1`:                 {Kind: api.Heading, New: words("a"), For: "b", Start: api.Start{Kind: api.OnDay, Day: 1}},
		`number all as 1`:                                       {Kind: api.Relabel, Label: "1"},
		`number section 5 paragraph 2A as 9999ZZZ`:              {Kind: api.Relabel, At: at, Label: "9999ZZZ"},
		`number all as 12A read for b`:                          {Kind: api.Relabel, Label: "12A", For: "b"},
		`move all into all first`:                               {Kind: api.Move},
		`move section 5 paragraph 2A into book part 1 last`:     {Kind: api.Move, At: at, To: to, Where: api.Last},
		`move section 5 paragraph 2A behind book`:               {Kind: api.Move, At: at, To: to[:1], Where: api.After},
		`move book ahead of section 5 paragraph 2A`:             {Kind: api.Move, At: to[:1], To: at, Where: api.Before},
		`move all ahead of all read for b on event a`:           {Kind: api.Move, Where: api.Before, For: "b", Start: api.Start{Kind: api.OnEvent, Event: "a"}},
		`commence act 1 from day 0`:                             {Kind: api.Commence, Act: 1, Item: -1},
		`commence act 1048576 item 31 from day 1048576`:         {Kind: api.Commence, Act: 1048576, Item: 31, Day: 1048576},
		`expire act 4 from day 9`:                               {Kind: api.Expire, Act: 4, Item: -1, Day: 9},
		`expire act 4 item 0 from day 9`:                        {Kind: api.Expire, Act: 4, Day: 9},
		`revive act 4 from day 9`:                               {Kind: api.Revive, Act: 4, Item: -1, Day: 9},
		`revive act 4 item 10 from day 9`:                       {Kind: api.Revive, Act: 4, Item: 10, Day: 9},
		`happen peace on day 0`:                                 {Kind: api.DeclareEvent, Event: "peace"},
		`happen on on day 1048576`:                              {Kind: api.DeclareEvent, Event: "on", Day: 1048576},
		`correct act 1 item 0 as repeal all`:                    {Kind: api.Correct, Act: 1, By: []api.Item{{Kind: api.Repeal}}},
		`correct act 2 item 31 as number all as 1 by order`:     {Kind: api.Correct, Act: 2, Item: 31, By: []api.Item{{Kind: api.Relabel, Label: "1", Start: api.Start{Kind: api.OnOrder}}}},
		`correct act 2 item 1 as in all ahead of all put "a"`:   {Kind: api.Correct, Act: 2, Item: 1, By: []api.Item{{Kind: api.InsertWords, New: words("a")}}},
		"correct act 2 item 1 as behind all insert \"row 1\n\"": {Kind: api.Correct, Act: 2, Item: 1, By: []api.Item{{Where: api.After, Unit: api.Unit{Kind: api.Row, Label: "1"}}}},
	} {
		expectItem(t, text, it)
	}
}

// TestSamples compares the texts of all kinds, with every purpose and start, with the model, and expects that they differ.
func TestSamples(t *testing.T) {
	seen := map[string]bool{}
	for _, it := range samples(t) {
		text := checkItem(t, it)
		if text == "" || seen[text] {
			t.Errorf("%v: %q", it, text)
		}
		seen[text] = true
		if checkParse(t, text) != api.OK {
			t.Error(text)
		}
	}
}

// P17.1: Valid

// values contains values of each field, many of which are valid in some kind.
func values() map[string][]any {
	many := func(n int) []string { return slices.Repeat([]string{"w"}, n) }
	path := func(n int) []api.Step { return slices.Repeat([]api.Step{{Kind: api.Para, Label: "1"}}, n) }
	numbers := []any{math.MinInt, -2, -1, 0, 1, 2, 3, 4, 31, 32, 255, 256, 257, 1<<20 - 1, 1 << 20, 1<<20 + 1, math.MaxInt}
	paths := []any{[]api.Step(nil), []api.Step{}, path(1), path(9), path(10), []api.Step{{}}, append([]api.Step{{}}, path(8)...), append([]api.Step{{}}, path(9)...), []api.Step{{}, {}}, append(path(1), api.Step{}),
		[]api.Step{{Kind: api.Book, Label: "1"}}, []api.Step{{Kind: api.Para}}, []api.Step{{Kind: 8, Label: "1"}}, []api.Step{{Kind: -1, Label: "1"}}, []api.Step{{Kind: api.Para, Label: "01"}}, []api.Step{{Kind: api.Note, Label: "9999ZZZ"}}, []api.Step{{Kind: api.Part, Label: "1a"}}}
	sequences := []any{[]string(nil), []string{}, []string{"a"}, []string{"a", "b"}, many(256), many(257), []string{""}, []string{"a", ""}, []string{"a b"}, []string{" "}, []string{"\n"}, []string{"\x7f"}, []string{"é"}, []string{`"\`}, []string{strings.Repeat("a", 24)}, []string{strings.Repeat("a", 25)}}
	names := []any{"", "a", "z9-", strings.Repeat("a", 16), strings.Repeat("a", 17), "1a", "-a", "A", "aA", "a b", "a_b", "é", "aé", "a\n", " a", "5", "0", "5A", "05", "12AB", "9999ZZZ", "10000", "9999ZZZZ", `"a"`, "all", "for", ";"}
	marks := unitOf(api.Section, "1", "a", "b")
	marks.Words[0].By.Act = 1
	return map[string][]any{
		"At": paths, "To": paths, "Where": numbers, "Nth": numbers, "Act": numbers, "Item": numbers, "Day": numbers, "Old": sequences, "New": sequences, "Label": names, "For": names, "Event": names,
		"Unit": {api.Unit{}, sampleUnit(), unitOf(api.Part, "1", "", ""), unitOf(api.Note, "1", "", "a"), unitOf(api.Note, "", "", ""), unitOf(api.Note, "01", "", ""), unitOf(8, "1", "", ""), unitOf(-1, "1", "", ""), unitOf(api.Book, "", "", "", unitOf(api.Section, "1", "", "")), unitOf(api.Book, "1", "", ""),
			api.Unit{Id: api.Id{N: 1}}, api.Unit{Id: api.Id{Act: 1, N: 1}, Kind: api.Section, Label: "1"}, api.Unit{Head: []api.Word{}, Kids: []api.Unit{}}, marks, unitOf(api.Section, "1", "", "", unitOf(api.Section, "1", "", "")), unitOf(api.Section, "1", "", "", unitOf(api.Note, "1", "", ""), unitOf(api.Note, "1", "", "")), unitOf(api.Section, "1", "a \n", "")},
		"Start": {api.Start{}, api.Start{Kind: -1}, api.Start{Kind: 4}, api.Start{Day: 1}, api.Start{Day: -1}, api.Start{Event: "a"}, api.Start{Kind: api.OnDay}, api.Start{Kind: api.OnDay, Day: 1 << 20}, api.Start{Kind: api.OnDay, Day: 1<<20 + 1}, api.Start{Kind: api.OnDay, Day: -1}, api.Start{Kind: api.OnDay, Day: 1, Event: "a"},
			api.Start{Kind: api.OnOrder}, api.Start{Kind: api.OnOrder, Day: 1}, api.Start{Kind: api.OnOrder, Event: "a"}, api.Start{Kind: api.OnEvent}, api.Start{Kind: api.OnEvent, Event: "a"}, api.Start{Kind: api.OnEvent, Event: "A"}, api.Start{Kind: api.OnEvent, Event: strings.Repeat("a", 16)}, api.Start{Kind: api.OnEvent, Event: strings.Repeat("a", 17)}, api.Start{Kind: api.OnEvent, Event: "a", Day: 1}},
		"By": {[]api.Item(nil), []api.Item{}, []api.Item{{}}, []api.Item{{Kind: api.Repeal}}, []api.Item{{Kind: api.Repeal}, {Kind: api.Repeal}}, []api.Item{{Kind: api.Repeal, Label: "1"}}, []api.Item{{Kind: api.Move, For: "a", Start: api.Start{Kind: api.OnOrder}}}, []api.Item{{Kind: api.DeclareEvent, Event: "a"}}, []api.Item{{Kind: api.Correct, Act: 1, By: []api.Item{{Kind: api.Repeal}}}}, []api.Item{{Kind: 12}}, []api.Item{{Kind: -1}}},
	}
}

// TestFields gives every field of samples of each kind all kinds of values, and every two fields at random.
func TestFields(t *testing.T) {
	r := rand.New(rand.NewSource(17))
	all, valid, invalid := values(), 0, 0
	count := func(it api.Item) {
		if checkItem(t, it) != "" {
			valid++
		} else {
			invalid++
		}
	}
	for _, sample := range plainSamples(t) {
		for _, name := range fieldNames() {
			if len(all[name]) == 0 {
				t.Fatal("no values of", name)
			}
			for _, value := range all[name] {
				it := sample
				reflect.ValueOf(&it).Elem().FieldByName(name).Set(reflect.ValueOf(value))
				count(it)
				other := fieldNames()[r.Intn(len(all))]
				reflect.ValueOf(&it).Elem().FieldByName(other).Set(reflect.ValueOf(all[other][r.Intn(len(all[other]))]))
				count(it)
				it.Kind = r.Intn(14) - 1
				count(it)
			}
		}
	}
	if valid < 1000 || invalid < 5000 {
		t.Error(valid, invalid)
	}
}

// TestUnlistedFields sets every field that the row of a kind does not list to something other than zero.
func TestUnlistedFields(t *testing.T) {
	others := map[string][]any{
		"At": {[]api.Step{{}}}, "To": {[]api.Step{{Kind: api.Section, Label: "1"}}}, "Where": {1, -1}, "Nth": {1, -1}, "Old": {[]string{"a"}}, "New": {[]string{"a"}}, "Label": {"1", "x"}, "For": {"a"}, "Act": {1, -1}, "Item": {1, -1}, "Day": {1, -1}, "Event": {"a"},
		"Unit":  {unitOf(api.Section, "1", "", ""), api.Unit{Label: "1"}, api.Unit{Kind: 1}, api.Unit{Id: api.Id{Item: 1}}, api.Unit{Head: marked("a")}, api.Unit{Words: marked("a")}, api.Unit{Kids: []api.Unit{{}}}},
		"Start": {api.Start{Kind: api.OnOrder}, api.Start{Day: 1}, api.Start{Event: "a"}},
		"By":    {[]api.Item{{}}, []api.Item{{Kind: api.Repeal}}},
	}
	for _, sample := range plainSamples(t) {
		for _, name := range fieldNames() {
			if slices.Contains(listed[sample.Kind], name) {
				continue
			}
			for _, value := range others[name] {
				it := sample
				reflect.ValueOf(&it).Elem().FieldByName(name).Set(reflect.ValueOf(value))
				expectValid(t, it, false)
			}
		}
		for _, name := range fieldNames() { // empty slices are as good as nil ones
			it := sample
			field := reflect.ValueOf(&it).Elem().FieldByName(name)
			if field.Kind() == reflect.Slice && field.Len() == 0 {
				field.Set(reflect.MakeSlice(field.Type(), 0, 3))
				expectValid(t, it, true)
			}
		}
	}
}

func TestUnknownKinds(t *testing.T) {
	for _, kind := range []int{math.MinInt, -12, -2, -1, 12, 13, 256, math.MaxInt} {
		expectValid(t, api.Item{Kind: kind}, false)
		for _, it := range samples(t) {
			it.Kind = kind
			expectValid(t, it, false)
		}
	}
	expectValid(t, api.Item{}, false) // an Insert without a unit
}

func TestBounds(t *testing.T) {
	insert := api.Item{Unit: unitOf(api.Section, "1", "", "")}
	for _, c := range []struct {
		it       api.Item
		field    string
		from, to int
	}{
		{insert, "Where", 0, 3},
		{api.Item{Kind: api.Move}, "Where", 0, 3},
		{api.Item{Kind: api.ReplaceWords, Old: words("a")}, "Nth", 0, 256},
		{api.Item{Kind: api.InsertWords, Old: words("a"), New: words("a")}, "Nth", 0, 256},
		{api.Item{Kind: api.InsertWords, New: words("a")}, "Nth", 0, 0},
		{api.Item{Kind: api.Commence, Act: 1}, "Act", 1, 1 << 20},
		{api.Item{Kind: api.Expire, Act: 1}, "Act", 1, 1 << 20},
		{api.Item{Kind: api.Revive, Act: 1}, "Act", 1, 1 << 20},
		{api.Item{Kind: api.Correct, Act: 1, By: []api.Item{{Kind: api.Repeal}}}, "Act", 1, 1 << 20},
		{api.Item{Kind: api.Commence, Act: 1}, "Item", -1, 31},
		{api.Item{Kind: api.Expire, Act: 1}, "Item", -1, 31},
		{api.Item{Kind: api.Revive, Act: 1}, "Item", -1, 31},
		{api.Item{Kind: api.Correct, Act: 1, By: []api.Item{{Kind: api.Repeal}}}, "Item", 0, 31},
		{api.Item{Kind: api.Commence, Act: 1}, "Day", 0, 1 << 20},
		{api.Item{Kind: api.Expire, Act: 1}, "Day", 0, 1 << 20},
		{api.Item{Kind: api.Revive, Act: 1}, "Day", 0, 1 << 20},
		{api.Item{Kind: api.DeclareEvent, Event: "a"}, "Day", 0, 1 << 20},
	} {
		for n, want := range map[int]bool{c.from: true, c.to: true, c.from - 1: false, c.to + 1: false, math.MinInt: false, math.MaxInt: false} {
			it := c.it
			reflect.ValueOf(&it).Elem().FieldByName(c.field).SetInt(int64(n))
			expectValid(t, it, want)
		}
	}
}

func TestNames(t *testing.T) {
	names := map[string]bool{
		"a": true, "z": true, "a0": true, "a-": true, "a--9": true, strings.Repeat("z", 16): true, "a" + strings.Repeat("-", 15): true,
		strings.Repeat("z", 17): false, strings.Repeat("z", 24): false, strings.Repeat("z", 25): false, strings.Repeat("z", 1<<17): false,
		"0": false, "0a": false, "9": false, "-": false, "-a": false, "A": false, "aB": false, "a b": false, " a": false, "a ": false, "a\n": false, "a_": false, "a.": false, "é": false, "aé": false, "\x00": false, "a\xff": false, `"a"`: false,
	}
	for name, want := range names {
		expectValid(t, api.Item{Kind: api.Repeal, For: name}, want)
		expectValid(t, api.Item{Kind: api.Move, Start: api.Start{Kind: api.OnEvent, Event: name}}, want)
		expectValid(t, api.Item{Kind: api.DeclareEvent, Event: name}, want)
	}
	expectValid(t, api.Item{Kind: api.Repeal, For: ""}, true)
	expectValid(t, api.Item{Kind: api.Repeal, Start: api.Start{Kind: api.OnEvent}}, false)
	expectValid(t, api.Item{Kind: api.DeclareEvent}, false)
}

func TestAddresses(t *testing.T) {
	step, book := api.Step{Kind: api.Para, Label: "1"}, api.Step{}
	for _, c := range []struct {
		p    []api.Step
		want bool
	}{
		{nil, true}, {[]api.Step{}, true}, {[]api.Step{book}, true}, {[]api.Step{step}, true}, {[]api.Step{book, step}, true}, {slices.Repeat([]api.Step{step}, 9), true}, {append([]api.Step{book}, slices.Repeat([]api.Step{step}, 8)...), true},
		{slices.Repeat([]api.Step{step}, 10), false}, {append([]api.Step{book}, slices.Repeat([]api.Step{step}, 9)...), false}, {[]api.Step{book, book}, false}, {[]api.Step{step, book}, false}, {[]api.Step{{Kind: api.Para}}, false}, {[]api.Step{{Label: "1"}}, false}, {[]api.Step{{Kind: 8, Label: "1"}}, false}, {[]api.Step{{Kind: api.Para, Label: "0"}}, false}, {[]api.Step{step, {Kind: -1, Label: "1"}}, false},
	} {
		for _, it := range plainSamples(t) {
			if !syntax.IsAmendment(it.Kind) {
				continue
			}
			it.At = c.p
			expectValid(t, it, c.want)
			if it.Kind == api.Move {
				it.At, it.To = nil, c.p
				expectValid(t, it, c.want)
			}
		}
	}
}

// longUnit returns a section whose text has exactly so many bytes, and as many quotes in its words.
func longUnit(t *testing.T, bytes, quotes int) api.Unit {
	t.Helper()
	u := unitOf(api.Section, "1", "", "")
	for i := range 9 {
		u.Kids = append(u.Kids, unitOf(api.Para, fmt.Sprint(i+1), "", "x"))
	}
	text, _ := plaintext.Format(u)
	size := len(text)
	for i := range u.Kids {
		for len(u.Kids[i].Words) < 256 && size < bytes {
			n := min(bytes-size, 25)
			if bytes-size-n == 1 { // a word needs a space and a byte at least
				n--
			}
			u.Kids[i].Words = append(u.Kids[i].Words, api.Word{Text: strings.Repeat(`"`, min(n-1, quotes)) + strings.Repeat("x", n-1-min(n-1, quotes))})
			quotes -= min(n-1, quotes)
			size += n
		}
	}
	text, errno := plaintext.Format(u)
	if quotes != 0 || errno == api.OK && len(text) != bytes || errno == api.ErrArg {
		t.Fatal("no unit of", bytes, "bytes: ", len(text), errno)
	}
	return u
}

func TestUnits(t *testing.T) {
	with := func(change func(u *api.Unit)) api.Unit {
		u := copyOf(api.Item{Unit: sampleUnit()}).Unit
		change(&u)
		return u
	}
	for _, c := range []struct {
		u    api.Unit
		want bool
	}{
		{sampleUnit(), true},
		{unitOf(api.Part, "1", "", "", sampleUnit()), true},
		{unitOf(api.Cell, "1", "", ""), true},
		{longUnit(t, 16000, 0), true},
		{longUnit(t, 16384, 0), true},
		{longUnit(t, 16385, 0), false}, // plaintext.ErrFull
		{api.Unit{}, false},
		{unitOf(api.Book, "", "", "", sampleUnit()), false},
		{unitOf(8, "1", "", ""), false},
		{unitOf(api.Section, "", "", ""), false},
		{unitOf(api.Section, "5", "", "", unitOf(api.Row, "1", "", "")), false},
		{with(func(u *api.Unit) { u.Id.Act = 1 }), false},
		{with(func(u *api.Unit) { u.Kids[0].Id.N = 1 }), false},
		{with(func(u *api.Unit) { u.Kids[1].Id = api.Id{Act: 1, N: 2} }), false},
		{with(func(u *api.Unit) { u.Head[0].By.Act = 1 }), false},
		{with(func(u *api.Unit) { u.Words[1].By.At = 1 }), false},
		{with(func(u *api.Unit) { u.Kids[0].Words[0].By.Item = -1 }), false},
		{with(func(u *api.Unit) { u.Words[0].Text = "" }), false},
		{with(func(u *api.Unit) { u.Kids[0].Label = "x" }), false},
		{with(func(u *api.Unit) { u.Kids = append(u.Kids, u.Kids[0]) }), false},
		{with(func(u *api.Unit) { u.Head = slices.Repeat(u.Head[:1], 257) }), false},
		{with(func(u *api.Unit) { u.Kind = api.Para }), true},
		{with(func(u *api.Unit) { u.Kind = api.Table }), false},
	} {
		for where := range 4 {
			expectValid(t, api.Item{Where: where, Unit: c.u}, c.want)
		}
		expectValid(t, api.Item{Kind: api.Correct, Act: 1, By: []api.Item{{Unit: c.u}}}, c.want)
	}
}

func TestSequences(t *testing.T) {
	many := func(n int) []string { return slices.Repeat([]string{"w"}, n) }
	for _, c := range []struct {
		l    []string
		want bool
	}{
		{many(1), true}, {many(256), true}, {words(`a " \ | ~ !`), true}, {[]string{strings.Repeat("w", 24)}, true},
		{many(257), false}, {[]string{""}, false}, {[]string{"a", ""}, false}, {[]string{"a b"}, false}, {[]string{"a\n"}, false}, {[]string{"é"}, false}, {[]string{"\x7f"}, false}, {[]string{strings.Repeat("w", 25)}, false},
	} {
		for nth := range 2 {
			expectValid(t, api.Item{Kind: api.ReplaceWords, Old: c.l, Nth: nth}, c.want)
			expectValid(t, api.Item{Kind: api.ReplaceWords, Old: words("a"), New: c.l, Nth: nth}, c.want)
			expectValid(t, api.Item{Kind: api.InsertWords, Old: c.l, New: words("a"), Nth: nth}, c.want)
			expectValid(t, api.Item{Kind: api.InsertWords, Old: words("a"), New: c.l, Nth: nth}, c.want)
		}
		expectValid(t, api.Item{Kind: api.InsertWords, New: c.l}, c.want)
		expectValid(t, api.Item{Kind: api.Heading, New: c.l}, c.want)
	}
	for nth, want := range map[int]bool{-1: false, 0: true, 1: false, 256: false, 257: false} {
		expectValid(t, api.Item{Kind: api.InsertWords, New: words("a"), Nth: nth}, want)
		expectValid(t, api.Item{Kind: api.InsertWords, Old: []string{}, New: words("a"), Nth: nth}, want)
		expectValid(t, api.Item{Kind: api.ReplaceWords, New: words("a"), Nth: nth}, false)
		expectValid(t, api.Item{Kind: api.InsertWords, Old: words("a"), Nth: nth}, false)
		expectValid(t, api.Item{Kind: api.InsertWords, Nth: nth}, false)
		expectValid(t, api.Item{Kind: api.Heading, Nth: nth}, want)
	}
}

func TestLabels(t *testing.T) {
	for s, want := range map[string]bool{"1": true, "9999": true, "12A": true, "9999ZZZ": true, "": false, "0": false, "01": false, "10000": false, "1AAAA": false, "A": false, "1a": false, "1 ": false, "-1": false} {
		expectValid(t, api.Item{Kind: api.Relabel, Label: s}, want)
	}
}

func TestStarts(t *testing.T) {
	for _, c := range []struct {
		s    api.Start
		want bool
	}{
		{api.Start{}, true}, {api.Start{Day: 1}, false}, {api.Start{Day: -1}, false}, {api.Start{Event: "a"}, false},
		{api.Start{Kind: api.OnDay}, true}, {api.Start{Kind: api.OnDay, Day: 1 << 20}, true}, {api.Start{Kind: api.OnDay, Day: -1}, false}, {api.Start{Kind: api.OnDay, Day: 1<<20 + 1}, false}, {api.Start{Kind: api.OnDay, Event: "a"}, false},
		{api.Start{Kind: api.OnOrder}, true}, {api.Start{Kind: api.OnOrder, Day: 1}, false}, {api.Start{Kind: api.OnOrder, Event: "a"}, false},
		{api.Start{Kind: api.OnEvent, Event: "a"}, true}, {api.Start{Kind: api.OnEvent}, false}, {api.Start{Kind: api.OnEvent, Event: "a", Day: 1}, false}, {api.Start{Kind: api.OnEvent, Event: "A"}, false},
		{api.Start{Kind: -1}, false}, {api.Start{Kind: 4}, false}, {api.Start{Kind: 4, Event: "a"}, false}, {api.Start{Kind: math.MaxInt}, false},
	} {
		for _, it := range plainSamples(t) {
			it.Start = c.s
			expectValid(t, it, c.want && syntax.IsAmendment(it.Kind) || c.s == api.Start{})
		}
	}
}

func TestReplacements(t *testing.T) {
	correct := func(l ...api.Item) api.Item { return api.Item{Kind: api.Correct, Act: 1, By: l} }
	for _, it := range append(samples(t), correct(api.Item{Kind: api.Repeal})) {
		isAmendment := it.Kind <= api.Move
		expectValid(t, correct(it), isAmendment)
		expectValid(t, correct(it, it), false)
		expectValid(t, correct(api.Item{Kind: api.Repeal}, it), false)
		it.By = []api.Item{{Kind: api.Repeal}}
		expectValid(t, correct(it), false)
	}
	expectValid(t, correct(), false)
	expectValid(t, correct(api.Item{Kind: api.Repeal, For: "A"}), false)
	expectValid(t, correct(api.Item{Kind: -1}), false)
	expectValid(t, correct(api.Item{Kind: 12}), false)
}

// P17.1: the errors of Format

// wordsOf returns a word sequence whose text, quoted, has exactly so many bytes between the quotes.
func wordsOf(bytes int) []string {
	word := func(n int) string { // two bytes for each backslash
		doubled := max(0, n-24)
		return strings.Repeat(`\`, doubled) + strings.Repeat("x", n-2*doubled)
	}
	var l []string
	for bytes > 48 {
		n := min(48, bytes-2)
		l = append(l, word(n))
		bytes -= n + 1
	}
	return append(l, word(bytes))
}

// longItem returns a ReplaceWords whose text has exactly so many bytes.
func longItem(t *testing.T, bytes int) api.Item {
	t.Helper()
	room := bytes - len(`in all for "" put "" each`)
	it := api.Item{Kind: api.ReplaceWords, Old: wordsOf(room / 2), New: wordsOf(room - room/2)}
	if len(textOf(it)) != bytes {
		t.Fatal(bytes, len(textOf(it)))
	}
	return it
}

func TestLongTexts(t *testing.T) {
	t.Parallel()
	for bytes := maxText - 30; bytes <= maxText+30; bytes++ {
		it := longItem(t, bytes)
		want := api.OK
		if bytes > maxText {
			want = api.ErrFull
		}
		text, errno := syntax.Format(it)
		if errno != want || (text == "") != (want == api.ErrFull) || !syntax.Valid(it) {
			t.Error(bytes, errno)
		}
		checkItem(t, it)
		back, at, errno := syntax.Parse(textOf(it))
		if errno != want || at != 0 || (want == api.OK) != syntax.Equal(back, it) || want != api.OK && !isZero(back) {
			t.Error(bytes, at, errno)
		}
	}
	for quotes, want := range map[int]api.Errno{0: api.OK, 1: api.OK, 2: api.ErrFull, 8000: api.ErrFull} {
		u := longUnit(t, maxText-len(`into all first insert ""`)-1, quotes)
		it := api.Item{Unit: u}
		if _, errno := syntax.Format(it); errno != want || !syntax.Valid(it) {
			t.Error(quotes, errno)
		}
		checkItem(t, it)
	}
	correct := api.Item{Kind: api.Correct, Act: 1, By: []api.Item{longItem(t, maxText-len("correct act 1 item 0 as "))}}
	if text, errno := syntax.Format(correct); errno != api.OK || len(text) != maxText {
		t.Error(len(text), errno)
	}
	correct.Item = 10
	if text, errno := syntax.Format(correct); errno != api.ErrFull || text != "" || !syntax.Valid(correct) {
		t.Error(len(text), errno)
	}
	checkItem(t, correct)
}

// TestFormatErrorOrder formats instructions that are not valid and whose text would be too long.
func TestFormatErrorOrder(t *testing.T) {
	for _, change := range []func(it *api.Item){
		func(it *api.Item) { it.Nth = 257 },
		func(it *api.Item) { it.To = []api.Step{{}} },
		func(it *api.Item) { it.New[1] = "" },
		func(it *api.Item) { it.Start.Kind = 7 },
	} {
		it := longItem(t, maxText+100)
		if _, errno := syntax.Format(it); errno != api.ErrFull {
			t.Error(errno)
		}
		change(&it)
		if text, errno := syntax.Format(it); errno != api.ErrArg || text != "" {
			t.Error(errno)
		}
	}
}

// P17.2

func TestKinds(t *testing.T) {
	names := []string{"insert", "repeal", "words", "put", "heading", "relabel", "move", "commence", "expire", "revive", "happen", "correct"}
	for kind, name := range names {
		if syntax.KindName(kind) != name || syntax.IsAmendment(kind) != (kind <= 6) {
			t.Error(kind, syntax.KindName(kind), syntax.IsAmendment(kind))
		}
	}
	for _, kind := range []int{math.MinInt, -256, -12, -2, -1, 12, 13, 14, 256, 1 << 20, math.MaxInt} {
		if syntax.KindName(kind) != "" || syntax.IsAmendment(kind) {
			t.Error(kind)
		}
	}
}

// P17.1: Equal

// changed returns values that differ from a value in one place, each in another one.
func changed(v reflect.Value) []reflect.Value {
	var out []reflect.Value
	at := func(place reflect.Value, value reflect.Value) {
		old := normal(place)
		place.Set(value)
		out = append(out, normal(v))
		place.Set(old)
	}
	var visit func(place reflect.Value)
	visit = func(place reflect.Value) {
		switch place.Kind() {
		case reflect.Int:
			at(place, reflect.ValueOf(int(place.Int())+1))
			at(place, reflect.ValueOf(int(place.Int())-1))
		case reflect.String:
			at(place, reflect.ValueOf(place.String()+"x"))
		case reflect.Struct:
			for i := range place.NumField() {
				visit(place.Field(i))
			}
		case reflect.Slice:
			n := place.Len()
			if n < 5 {
				at(place, reflect.Append(normal(place), reflect.Zero(place.Type().Elem())))
			}
			if n > 0 {
				at(place, normal(place).Slice(0, n-1))
			}
			for i := range n {
				visit(place.Index(i))
			}
		}
	}
	visit(v)
	return out
}

// fullItem returns an instruction, not a valid one, in which no field is empty.
func fullItem() api.Item {
	it := api.Item{Kind: 3, At: []api.Step{{Kind: 1, Label: "1"}, {Kind: 2, Label: "2"}}, To: []api.Step{{Kind: 3, Label: "3"}}, Where: 4, Nth: 5, Unit: sampleUnit(), Old: words("a b"), New: words("c"), Label: "6", For: "e", Start: api.Start{Kind: 7, Day: 8, Event: "f"}, Act: 9, Item: 10, Day: 11, Event: "g"}
	it.Unit.Id, it.Unit.Words[0].By, it.Unit.Kids[0].Id = api.Id{Act: 1, Item: 2, N: 3}, api.Mark{Act: 4, Item: 5, At: 6}, api.Id{Act: 1, Item: 2, N: 4}
	it.By = []api.Item{copyOf(it), {Kind: 11, By: []api.Item{{Old: words("z")}}}}
	return it
}

// TestEqual compares instructions with copies that differ in one place.
func TestEqual(t *testing.T) {
	for _, it := range append(samples(t), fullItem(), api.Item{}) {
		if !syntax.Equal(it, it) || !syntax.Equal(it, copyOf(it)) || !syntax.Equal(copyOf(it), it) {
			t.Errorf("%v is not equal to itself", it)
		}
		c := copyOf(it)
		l := changed(reflect.ValueOf(&c).Elem())
		if len(l) < 30 {
			t.Error(len(l))
		}
		for _, v := range l {
			if x := v.Interface().(api.Item); syntax.Equal(it, x) || syntax.Equal(x, it) {
				t.Errorf("%v is equal to %v", it, x)
			}
		}
	}
}

func TestEqualFields(t *testing.T) {
	full := fullItem()
	for _, name := range append(fieldNames(), "Kind") {
		it := full
		field := reflect.ValueOf(&it).Elem().FieldByName(name)
		field.SetZero()
		if syntax.Equal(full, it) || syntax.Equal(it, full) || !syntax.Equal(it, it) {
			t.Error(name)
		}
		if field.Kind() == reflect.Slice {
			empty := it
			reflect.ValueOf(&empty).Elem().FieldByName(name).Set(reflect.MakeSlice(field.Type(), 0, 2))
			if !syntax.Equal(it, empty) || !syntax.Equal(empty, it) {
				t.Error(name, "nil and empty")
			}
		}
	}
	a, b := full, copyOf(full)
	a.Unit.Kids[1].Kids, b.Unit.Kids[1].Kids = nil, []api.Unit{}
	a.Unit.Kids[1].Words, b.Unit.Kids[1].Words = []api.Word{}, nil
	a.By[1].By[0].By, b.By[1].By[0].By = []api.Item{}, nil
	if !syntax.Equal(a, b) || !syntax.Equal(b, a) {
		t.Error("nil and empty below")
	}
}

// TestEqualPairs compares all samples with each other.
func TestEqualPairs(t *testing.T) {
	l := samples(t)
	for i, a := range l {
		for j, b := range l {
			if syntax.Equal(a, b) != (i == j) {
				t.Fatal(a, b)
			}
		}
	}
}

// Memory

// TestMemory changes all memory of results and arguments.
func TestMemory(t *testing.T) {
	for _, it := range append(samples(t), fullItem()) {
		before := copyOf(it)
		text, _ := syntax.Format(it)
		syntax.Valid(it)
		syntax.Equal(it, before)
		if !reflect.DeepEqual(normal(reflect.ValueOf(it)).Interface(), before) {
			t.Error("an argument is modified", it)
		}
		if text == "" {
			continue
		}
		one, _, _ := syntax.Parse(text)
		two, _, _ := syntax.Parse(text)
		spoil(reflect.ValueOf(&one).Elem())
		if !same(two, before) {
			t.Error("results share memory", text)
		}
		if three, _, _ := syntax.Parse(text); !same(three, before) {
			t.Error("a result is kept", text)
		}
	}
}

// TestSharedLists changes each list of a result, and expects that the others do not change.
func TestSharedLists(t *testing.T) {
	for _, it := range samples(t) {
		text := checkItem(t, it)
		for _, name := range fieldNames() {
			got, _, _ := syntax.Parse(text)
			spoil(reflect.ValueOf(&got).Elem().FieldByName(name))
			for _, other := range fieldNames() {
				a, b := reflect.ValueOf(got).FieldByName(other), reflect.ValueOf(it).FieldByName(other)
				if other != name && !reflect.DeepEqual(normal(a).Interface(), normal(b).Interface()) {
					t.Error(text, name, other)
				}
			}
		}
	}
}

// spoil changes everything that a value refers to, up to the capacity of its slices.
func spoil(v reflect.Value) {
	switch v.Kind() {
	case reflect.Int:
		v.SetInt(-77)
	case reflect.String:
		v.SetString("spoiled")
	case reflect.Struct:
		for i := range v.NumField() {
			spoil(v.Field(i))
		}
	case reflect.Slice:
		whole := v.Slice(0, v.Cap())
		for i := range whole.Len() {
			spoil(whole.Index(i))
		}
	}
}

// P1

// TestDeep gives deeply nested instructions and units to all functions.
func TestDeep(t *testing.T) {
	t.Parallel()
	it, u := api.Item{Kind: api.Repeal}, unitOf(api.Para, "1", "", "")
	for range 1 << 16 {
		it = api.Item{Kind: api.Correct, Act: 1, By: []api.Item{it}}
		u = unitOf(api.Para, "1", "", "", u)
	}
	it.Unit = u
	for _, x := range []api.Item{it, {Unit: u}, {Kind: api.Correct, Act: 1, By: []api.Item{{Unit: u}}}, {Kind: api.Correct, Act: 1, By: it.By}} {
		if syntax.Valid(x) || !syntax.Equal(x, x) || syntax.Equal(x, api.Item{Kind: x.Kind}) {
			t.Error("deep")
		}
		if _, errno := syntax.Format(x); errno != api.ErrArg {
			t.Error(errno)
		}
	}
}

// TestLongArguments gives long lists and strings to all functions.
func TestLongArguments(t *testing.T) {
	const n = 1 << 17
	long := strings.Repeat("a", n)
	for _, it := range []api.Item{
		{Kind: api.Repeal, At: make([]api.Step, n)}, {Kind: api.Move, To: make([]api.Step, n)}, {Kind: api.Heading, New: make([]string, n)}, {Kind: api.Heading, New: []string{long}}, {Kind: api.Relabel, Label: long}, {Kind: api.Repeal, For: long}, {Kind: api.DeclareEvent, Event: long}, {Kind: api.Correct, Act: 1, By: make([]api.Item, n)},
		{Unit: api.Unit{Kind: api.Section, Label: "1", Kids: make([]api.Unit, n)}}, {Unit: api.Unit{Kind: api.Section, Label: "1", Words: make([]api.Word, n)}}, {Unit: api.Unit{Kind: api.Section, Label: long}},
	} {
		if _, errno := syntax.Format(it); errno != api.ErrArg || syntax.Valid(it) || !syntax.Equal(it, it) {
			t.Error(it.Kind, errno)
		}
	}
	for _, s := range []string{"a", "\xff", `"`, " ", "repeal ", "section 5 ", "repeal section 1 section 1"} {
		if it, at, errno := syntax.Parse(strings.Repeat(s, n)); at != 0 || errno != api.ErrFull || !isZero(it) {
			t.Error(s, at, errno)
		}
	}
}
