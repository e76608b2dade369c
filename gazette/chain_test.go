package gazette_test

import (
	"fmt"
	"math"
	"math/rand"
	"slices"
	"testing"

	"pandect/api"
	"pandect/digest"
	"pandect/gazette"
)

// exampleDigest is the digest of the example of the chapter, computed by hand from the definition.
const exampleDigest = "e0352e58c37976df"

// The model: it follows the definitions.

// digestOf returns the digest of the gazette, or the empty string if it has no text.
func digestOf(g api.Gazette) string {
	text, errno := textOf(g)
	if errno != api.OK {
		return ""
	}
	return digest.Sum(text)
}

// successorError returns the error of CheckSuccessor.
func successorError(a, b api.Gazette) api.Errno {
	switch {
	case digestOf(a) == "", digestOf(b) == "":
		return api.ErrArg
	case b.Number-a.Number != 1:
		return api.ErrGap
	case a.Day > b.Day:
		return api.ErrOrder
	case b.Prior != digestOf(a):
		return api.ErrBroken
	}
	return api.OK
}

// chainError returns the results of CheckChain.
func chainError(l []api.Gazette) (int, api.Errno) {
	for i, g := range l {
		if digestOf(g) == "" {
			return i, api.ErrArg
		}
		if i == 0 && g.Number != 1 {
			return i, api.ErrGap
		}
		if i == 0 && g.Prior != "" {
			return i, api.ErrBroken
		}
		if i > 0 {
			if errno := successorError(l[i-1], g); errno != api.OK {
				return i, errno
			}
		}
	}
	return len(l), api.OK
}

// nextOf returns the results of Next.
func nextOf(l []api.Gazette, day int, acts []api.Act) (api.Gazette, api.Errno) {
	if _, errno := chainError(l); errno != api.OK {
		return api.Gazette{}, errno
	}
	g := api.Gazette{Number: len(l) + 1, Day: day, Acts: acts}
	if len(l) > 0 {
		last := l[len(l)-1]
		if day < last.Day {
			return api.Gazette{}, api.ErrOrder
		}
		g.Prior = digestOf(last)
	}
	if _, errno := textOf(g); errno != api.OK {
		return api.Gazette{}, errno
	}
	return g, api.OK
}

// checkSuccessor compares CheckSuccessor with the model, and returns the error.
func checkSuccessor(t *testing.T, a, b api.Gazette) api.Errno {
	t.Helper()
	want := successorError(a, b)
	if errno := gazette.CheckSuccessor(a, b); errno != want {
		t.Fatalf("CheckSuccessor(%v, %v): %d, want %d", a, b, errno, want)
	}
	return want
}

// checkChain compares CheckChain with the model, and returns its results.
func checkChain(t *testing.T, l []api.Gazette) (int, api.Errno) {
	t.Helper()
	at, errno := chainError(l)
	if gotAt, e := gazette.CheckChain(l...); gotAt != at || e != errno {
		t.Fatalf("CheckChain(%v): %d %d, want %d %d", l, gotAt, e, at, errno)
	}
	return at, errno
}

// expectChain expects the results of CheckChain.
func expectChain(t *testing.T, l []api.Gazette, at int, errno api.Errno) {
	t.Helper()
	if gotAt, e := checkChain(t, l); gotAt != at || e != errno {
		t.Errorf("CheckChain(%v): %d %d, want %d %d", l, gotAt, e, at, errno)
	}
}

// checkNext compares Next with the model, and returns its results.
func checkNext(t *testing.T, l []api.Gazette, day int, acts ...api.Act) (api.Gazette, api.Errno) {
	t.Helper()
	want, errno := nextOf(l, day, acts)
	got, e := gazette.Next(l, day, acts...)
	if !same(got, want) || e != errno {
		t.Fatalf("Next(%v, %d, %v): %v %d, want %v %d", l, day, acts, got, e, want, errno)
	}
	return got, e
}

// chainOf returns a chain of n gazettes. Every second one is of the day of the preceding one.
func chainOf(t testing.TB, n int) []api.Gazette {
	var l []api.Gazette
	for i := range n {
		g := api.Gazette{Number: i + 1, Day: 40 + i/2*10}
		if i > 0 {
			g.Prior = digestOf(l[i-1])
		}
		if i%3 == 1 {
			g.Acts = []api.Act{fish(t), bare()}
		}
		l = append(l, g)
	}
	return l
}

// tooLong returns a valid gazette without a text.
func tooLong(g api.Gazette) api.Gazette {
	g.Acts = []api.Act{longAct(maxText)}
	return g
}

// P19.2: Digest

func TestDigest(t *testing.T) {
	for _, c := range []struct {
		g    api.Gazette
		want string
	}{
		{api.Gazette{Number: 1, Day: 40}, "c674eefe08662a17"},
		{api.Gazette{Number: 2, Day: 40, Prior: "c674eefe08662a17"}, "3859460fddd4e333"},
		{api.Gazette{}, ""},
		{api.Gazette{Number: 1, Day: -1}, ""},
		{api.Gazette{Number: 1, Prior: "x"}, ""},
		{api.Gazette{Number: 1, Acts: []api.Act{{}}}, ""},
		{tooLong(api.Gazette{Number: 1}), ""},
	} {
		if got := gazette.Digest(c.g); got != c.want {
			t.Error(c.g, got)
		}
	}
	seen := map[string]bool{}
	for _, g := range chainOf(t, 5) {
		for _, other := range append(changesOf(g), g) {
			d := gazette.Digest(other)
			if d != digestOf(other) || d != "" && seen[d] {
				t.Error(other, d)
			}
			seen[d] = true
		}
	}
}

// P19.2: CheckSuccessor

func TestCheckSuccessor(t *testing.T) {
	for _, acts := range [][]api.Act{nil, {fish(t)}} {
		a := api.Gazette{Number: 5, Day: 40, Prior: someDigest, Acts: acts}
		b := api.Gazette{Number: 6, Day: 40, Prior: digestOf(a), Acts: acts}
		for change, want := range map[int]api.Errno{-5: api.ErrGap, -2: api.ErrGap, -1: api.ErrGap, 0: api.OK, 1: api.ErrGap, 2: api.ErrGap, 100: api.ErrGap, -6: api.ErrArg, 1 << 20: api.ErrArg, math.MaxInt: api.ErrArg} {
			other := b
			other.Number += change
			if errno := checkSuccessor(t, a, other); errno != want {
				t.Error(change, errno)
			}
		}
		for day, want := range map[int]api.Errno{-1: api.ErrArg, 0: api.ErrOrder, 38: api.ErrOrder, 39: api.ErrOrder, 40: api.OK, 41: api.OK, 1 << 20: api.OK, 1<<20 + 1: api.ErrArg} {
			other := b
			other.Day = day
			if errno := checkSuccessor(t, a, other); errno != want {
				t.Error(day, errno)
			}
		}
		for prior, want := range map[string]api.Errno{"": api.ErrBroken, someDigest: api.ErrBroken, farDigest: api.ErrBroken, digestOf(b): api.ErrBroken, digestOf(a): api.OK, "0": api.ErrArg} {
			other := b
			other.Prior = prior
			if errno := checkSuccessor(t, a, other); errno != want {
				t.Error(prior, errno)
			}
		}
		if checkSuccessor(t, b, a) != api.ErrGap || checkSuccessor(t, a, a) != api.ErrGap {
			t.Error("exchanged")
		}
		for _, other := range changesOf(a) { // of which b has no longer the digest
			want := api.ErrBroken
			switch {
			case digestOf(other) == "":
				want = api.ErrArg
			case other.Number != 5:
				want = api.ErrGap
			case other.Day > 40:
				want = api.ErrOrder
			}
			if errno := checkSuccessor(t, other, b); errno != want {
				t.Error(other, errno)
			}
		}
	}
	last := api.Gazette{Number: 1 << 20}
	if checkSuccessor(t, last, api.Gazette{Number: 1<<20 + 1, Prior: digestOf(last)}) != api.ErrArg || checkSuccessor(t, api.Gazette{}, api.Gazette{Number: 1}) != api.ErrArg {
		t.Error("numbers beyond the bounds")
	}
}

// TestSuccessorErrorOrder compares gazettes with several faults.
func TestSuccessorErrorOrder(t *testing.T) {
	type fault struct {
		errno  api.Errno
		change func(a, b *api.Gazette)
	}
	faults := []fault{
		{api.ErrArg, func(a, b *api.Gazette) { a.Acts = []api.Act{{}} }},
		{api.ErrArg, func(a, b *api.Gazette) { *a = tooLong(*a) }},
		{api.ErrArg, func(a, b *api.Gazette) { b.Acts = []api.Act{{}} }},
		{api.ErrArg, func(a, b *api.Gazette) { *b = tooLong(*b) }},
		{api.ErrGap, func(a, b *api.Gazette) { b.Number += 2 }},
		{api.ErrOrder, func(a, b *api.Gazette) { b.Day = a.Day - 1 }},
		{api.ErrBroken, func(a, b *api.Gazette) { b.Prior = farDigest }},
	}
	for choice := range 1 << len(faults) {
		a := api.Gazette{Number: 5, Day: 40}
		b := api.Gazette{Number: 6, Day: 40, Prior: digestOf(a)}
		want := api.OK
		for i := len(faults) - 1; i >= 0; i-- {
			if choice>>i&1 == 1 {
				faults[i].change(&a, &b)
				want = faults[i].errno
			}
		}
		if errno := checkSuccessor(t, a, b); errno != want {
			t.Error(choice, errno)
		}
	}
}

// P19.2, P19.3: CheckChain

func TestCheckChain(t *testing.T) {
	expectChain(t, nil, 0, api.OK)
	expectChain(t, []api.Gazette{}, 0, api.OK)
	for n := 1; n <= 8; n++ {
		expectChain(t, chainOf(t, n), n, api.OK)
		expectChain(t, chainOf(t, 8)[8-n:], map[bool]int{true: 8}[n == 8], map[bool]api.Errno{true: api.OK, false: api.ErrGap}[n == 8])
	}
	for _, c := range []struct {
		g     api.Gazette
		at    int
		errno api.Errno
	}{
		{api.Gazette{Number: 1}, 1, api.OK},
		{api.Gazette{Number: 1, Day: 1 << 20, Acts: []api.Act{fish(t)}}, 1, api.OK},
		{api.Gazette{Number: 2}, 0, api.ErrGap},
		{api.Gazette{Number: 1 << 20}, 0, api.ErrGap},
		{api.Gazette{Number: 1, Prior: someDigest}, 0, api.ErrBroken},
		{api.Gazette{Number: 2, Prior: someDigest}, 0, api.ErrGap},
		{api.Gazette{}, 0, api.ErrArg},
		{api.Gazette{Prior: someDigest}, 0, api.ErrArg},
		{api.Gazette{Number: 1, Day: -1}, 0, api.ErrArg},
		{api.Gazette{Number: 1, Prior: "x"}, 0, api.ErrArg},
		{tooLong(api.Gazette{Number: 1}), 0, api.ErrArg},
		{tooLong(api.Gazette{Number: 2}), 0, api.ErrArg},
		{tooLong(api.Gazette{Number: 1, Prior: someDigest}), 0, api.ErrArg},
	} {
		expectChain(t, []api.Gazette{c.g}, c.at, c.errno)
	}
}

// TestDamagedChains omits, doubles, exchanges and modifies the gazettes of a chain.
func TestDamagedChains(t *testing.T) {
	const n = 7
	chain := chainOf(t, n)
	for i := range n {
		omitted := slices.Delete(slices.Clone(chain), i, i+1)
		if i < n-1 {
			expectChain(t, omitted, i, api.ErrGap)
		} else {
			expectChain(t, omitted, n-1, api.OK)
		}
		expectChain(t, slices.Insert(slices.Clone(chain), i, chain[i]), i+1, api.ErrGap)
		for j := range i {
			exchanged := slices.Clone(chain)
			exchanged[i], exchanged[j] = exchanged[j], exchanged[i]
			expectChain(t, exchanged, j, api.ErrGap)
		}
		modify := func(change func(g *api.Gazette), at int, errno api.Errno) {
			t.Helper()
			l := copyOf(chain)
			change(&l[i])
			if at == n { // nothing follows that could show it
				errno = api.OK
			}
			expectChain(t, l, at, errno)
		}
		modify(func(g *api.Gazette) { g.Number++ }, i, api.ErrGap)
		modify(func(g *api.Gazette) { g.Number = 0 }, i, api.ErrArg)
		modify(func(g *api.Gazette) { g.Day = 200 }, i+1, api.ErrOrder)
		modify(func(g *api.Gazette) { g.Day = -1 }, i, api.ErrArg)
		if i > 0 {
			modify(func(g *api.Gazette) { g.Day = 39 }, i, api.ErrOrder)
			modify(func(g *api.Gazette) { g.Prior = "" }, i, api.ErrBroken)
		} else {
			modify(func(g *api.Gazette) { g.Day = 39 }, i+1, api.ErrBroken)
		}
		if i%2 == 1 { // the day of the next gazette is a later one
			modify(func(g *api.Gazette) { g.Day++ }, i+1, api.ErrBroken)
		}
		modify(func(g *api.Gazette) { g.Prior = farDigest }, i, api.ErrBroken)
		modify(func(g *api.Gazette) { g.Prior = "x" }, i, api.ErrArg)
		modify(func(g *api.Gazette) { g.Acts = append(g.Acts, bare()) }, i+1, api.ErrBroken)
		modify(func(g *api.Gazette) { g.Acts = []api.Act{longAct(500)} }, i+1, api.ErrBroken)
		modify(func(g *api.Gazette) { g.Acts = slices.Repeat([]api.Act{bare()}, 17) }, i, api.ErrArg)
		modify(func(g *api.Gazette) { *g = tooLong(*g) }, i, api.ErrArg)
		if len(chain[i].Acts) > 0 {
			modify(func(g *api.Gazette) { g.Acts = nil }, i+1, api.ErrBroken)
			modify(func(g *api.Gazette) { g.Acts = g.Acts[:1] }, i+1, api.ErrBroken)
			modify(func(g *api.Gazette) { g.Acts[0].Items[2].New[1] = "acts" }, i+1, api.ErrBroken)
			modify(func(g *api.Gazette) { slices.Reverse(g.Acts) }, i+1, api.ErrBroken)
		}
		for _, g := range changesOf(chain[i]) {
			l := slices.Clone(chain)
			l[i] = g
			if at, errno := checkChain(t, l); at != i && at != i+1 || errno == api.OK && i < n-1 {
				t.Errorf("%v: %d %d", g, at, errno)
			}
		}
	}
}

// TestChainErrorOrder checks chains with two faults in one gazette, and in two.
func TestChainErrorOrder(t *testing.T) {
	type fault struct {
		errno  api.Errno
		change func(g *api.Gazette)
	}
	faults := []fault{
		{api.ErrArg, func(g *api.Gazette) { *g = tooLong(*g) }},
		{api.ErrGap, func(g *api.Gazette) { g.Number += 2 }},
		{api.ErrOrder, func(g *api.Gazette) { g.Day = 3 }},
		{api.ErrBroken, func(g *api.Gazette) { g.Prior = farDigest }},
	}
	const n = 5
	for i := range n {
		for choice := 1; choice < 1<<len(faults); choice++ {
			l := copyOf(chainOf(t, n))
			want := api.OK
			for f := len(faults) - 1; f >= 0; f-- {
				if choice>>f&1 == 1 && (i > 0 || faults[f].errno != api.ErrOrder) {
					faults[f].change(&l[i])
					want = faults[f].errno
				}
			}
			if want == api.OK {
				continue
			}
			expectChain(t, l, i, want)
			for j := i + 1; j < n; j++ { // faults of later gazettes do not matter
				for _, f := range faults {
					later := copyOf(l)
					f.change(&later[j])
					expectChain(t, later, i, want)
				}
			}
		}
	}
}

// P19.2, P19.3: Next

func TestNext(t *testing.T) {
	for _, acts := range [][]api.Act{nil, {bare()}, {fish(t), bare()}, slices.Repeat([]api.Act{bare()}, 16)} {
		for day, want := range map[int]api.Errno{-1: api.ErrArg, 0: api.OK, 40: api.OK, 1 << 20: api.OK, 1<<20 + 1: api.ErrArg, math.MinInt: api.ErrArg, math.MaxInt: api.ErrArg} {
			for _, none := range [][]api.Gazette{nil, {}} {
				g, errno := checkNext(t, none, day, acts...)
				if errno != want || errno == api.OK && (g.Number != 1 || g.Day != day || g.Prior != "" || !same(g.Acts, acts)) {
					t.Error(day, g, errno)
				}
			}
		}
		for n := 1; n <= 6; n++ {
			chain := chainOf(t, n)
			last := chain[n-1]
			for day, want := range map[int]api.Errno{-1: api.ErrOrder, 0: api.ErrOrder, last.Day - 1: api.ErrOrder, last.Day: api.OK, last.Day + 1: api.OK, 1 << 20: api.OK, 1<<20 + 1: api.ErrArg, math.MinInt: api.ErrOrder, math.MaxInt: api.ErrArg} {
				g, errno := checkNext(t, chain, day, acts...)
				if errno != want {
					t.Error(day, errno)
				}
				if errno != api.OK {
					continue
				}
				if g.Number != n+1 || g.Day != day || g.Prior != gazette.Digest(last) || !same(g.Acts, acts) || gazette.CheckSuccessor(last, g) != api.OK {
					t.Error(day, g)
				}
				expectChain(t, append(slices.Clone(chain), g), n+1, api.OK)
			}
		}
	}
}

// TestNextRefused gives acts that are not valid, too many or too long, and lists that are no chains.
func TestNextRefused(t *testing.T) {
	for n := range 4 {
		chain := chainOf(t, n)
		for i, c := range []struct {
			acts []api.Act
			want api.Errno
		}{
			{[]api.Act{{}}, api.ErrArg}, {[]api.Act{bare(), {}, bare()}, api.ErrArg}, {slices.Repeat([]api.Act{bare()}, 17), api.ErrArg}, {slices.Repeat([]api.Act{bare()}, 16), api.OK},
			{[]api.Act{longAct(maxText)}, api.ErrFull}, {[]api.Act{longAct(maxText + 1)}, api.ErrFull}, {[]api.Act{longAct(10000), longAct(10000)}, api.ErrFull}, {[]api.Act{longAct(16000)}, api.OK},
			{[]api.Act{longAct(maxText), {}}, api.ErrArg}, {slices.Repeat([]api.Act{longAct(2000)}, 17), api.ErrArg}, // two errors
		} {
			if _, errno := checkNext(t, chain, 99, c.acts...); errno != c.want {
				t.Error(n, i, errno)
			}
			if _, errno := checkNext(t, chain, 39, c.acts...); n > 0 && errno != api.ErrOrder || n == 0 && errno != c.want { // before ErrArg and ErrFull
				t.Error(n, i, errno)
			}
			if _, errno := checkNext(t, chain, 1<<20+1, c.acts...); errno != api.ErrArg { // before ErrFull
				t.Error(n, i, errno)
			}
			if n == 0 {
				continue
			}
			for j := range n { // the error of CheckChain comes before all others
				for _, f := range []struct {
					errno  api.Errno
					change func(g *api.Gazette)
				}{
					{api.ErrArg, func(g *api.Gazette) { g.Number = 0 }}, {api.ErrArg, func(g *api.Gazette) { *g = tooLong(*g) }}, {api.ErrGap, func(g *api.Gazette) { g.Number += 2 }}, {api.ErrBroken, func(g *api.Gazette) { g.Prior = farDigest }},
				} {
					l := copyOf(chain)
					f.change(&l[j])
					for _, day := range []int{99, 39, -1, 1<<20 + 1} {
						if _, errno := checkNext(t, l, day, c.acts...); errno != f.errno {
							t.Error(n, i, j, day, errno)
						}
					}
				}
			}
		}
	}
	l := chainOf(t, 3)
	l[2].Day = 10
	for _, day := range []int{5, 10, 99} {
		if _, errno := checkNext(t, l, day); errno != api.ErrOrder {
			t.Error(day, errno)
		}
	}
}

// TestBuiltChains builds random chains with Next, and damages them.
func TestBuiltChains(t *testing.T) {
	r := rand.New(rand.NewSource(192))
	for range 25 {
		var l []api.Gazette
		for day := 0; len(l) < 12; day += r.Intn(3) {
			var acts []api.Act
			for range r.Intn(4) {
				acts = append(acts, parseAct(t, sections[r.Intn(len(sections))]))
			}
			g, errno := checkNext(t, l, day, acts...)
			if errno != api.OK {
				t.Fatal(errno)
			}
			l = append(l, g)
			expectChain(t, l, len(l), api.OK)
		}
		for range 20 {
			i := r.Intn(len(l) - 1)
			changes := changesOf(l[i])
			other := slices.Clone(l)
			other[i] = changes[r.Intn(len(changes))]
			if at, errno := checkChain(t, other); errno == api.OK || at != i && at != i+1 {
				t.Error(i, at, errno)
			}
		}
	}
}

// TestLongestChain builds the longest possible chain, which nothing extends.
func TestLongestChain(t *testing.T) {
	l := make([]api.Gazette, 0, 1<<20)
	prior := ""
	for i := range 1 << 20 {
		l = append(l, api.Gazette{Number: i + 1, Day: i, Prior: prior})
		link := "first"
		if i > 0 {
			link = `behind "` + prior + `"`
		}
		prior = digest.Sum(fmt.Sprintf("gazette %d day %d %s;\n", i+1, i, link))
	}
	if at, errno := gazette.CheckChain(l...); at != 1<<20 || errno != api.OK {
		t.Fatal(at, errno)
	}
	if g, errno := gazette.Next(l, 1<<20); errno != api.ErrArg || !same(g, api.Gazette{}) {
		t.Error(g, errno)
	}
}
