package pagestore_test

import (
	"fmt"
	"math"
	"math/rand"
	"slices"
	"strings"
	"testing"

	"pandect/api"
	"pandect/pagestore"
)

const (
	maxText  = 16384 // bytes of a page
	maxPages = 4096
	limit    = 40 // the number of operations for which a counter is looked for; greater ones count as none
)

// state is everything that can be told of a store.
type state struct {
	Pages         []string
	Durable, Root int
	Counter       int // -1 if there is none, and for a store that has failed
	Failed        bool
}

// stateOf returns the state of the store, which it finds out from copies.
func stateOf(s *pagestore.Store) state {
	out := state{Root: s.Root(), Failed: s.Failed(), Counter: -1}
	all := s.Clone()
	all.Crash(math.MaxInt)
	for i := range all.Len() {
		text, _ := all.Read(i)
		out.Pages = append(out.Pages, text)
	}
	durable := s.Clone()
	durable.Crash(0)
	out.Durable = durable.Len()
	if s.Failed() {
		return out
	}
	counted := s.Clone()
	for i := range limit {
		if operate(counted) != api.OK {
			out.Counter = i
			break
		}
	}
	return out
}

// operate calls an operation that is not rejected.
func operate(s *pagestore.Store) api.Errno {
	if s.Len() > 0 {
		return s.SetRoot(0)
	}
	_, errno := s.Append("")
	return errno
}

// expect compares the state of the store, as its functions tell it, with another one.
func expect(t *testing.T, s *pagestore.Store, want state) {
	t.Helper()
	got := stateOf(s)
	if !slices.Equal(got.Pages, want.Pages) || got.Durable != want.Durable || got.Root != want.Root || got.Counter != want.Counter || got.Failed != want.Failed {
		t.Fatalf("got %+v, want %+v", short(got), short(want))
	}
	if s.Len() != len(want.Pages) {
		t.Fatal(s.Len(), len(want.Pages))
	}
	for i, text := range want.Pages {
		wantErrno := api.OK
		if want.Failed {
			text, wantErrno = "", api.ErrFailed
		}
		if got, errno := s.Read(i); got != text || errno != wantErrno {
			t.Fatal(i, len(got), errno)
		}
	}
}

// short returns the state with less of its pages.
func short(x state) state {
	if len(x.Pages) > 10 {
		x.Pages = append(slices.Clone(x.Pages[:10]), fmt.Sprint("and ", len(x.Pages)-10, " more"))
	}
	x.Pages = slices.Clone(x.Pages)
	for i, text := range x.Pages {
		x.Pages[i] = text[:min(len(text), 20)]
	}
	return x
}

// with returns a store with the pages, none of which is durable.
func with(t *testing.T, texts ...string) *pagestore.Store {
	t.Helper()
	s := pagestore.New()
	for i, text := range texts {
		appendPage(t, s, text, i, api.OK)
	}
	return s
}

// numbered returns the numbers from 0 to n-1 as texts.
func numbered(n int) []string {
	var l []string
	for i := range n {
		l = append(l, fmt.Sprint(i))
	}
	return l
}

// appendPage calls Append and compares its results.
func appendPage(t *testing.T, s *pagestore.Store, text string, page int, errno api.Errno) {
	t.Helper()
	if got, gotErrno := s.Append(text); got != page || gotErrno != errno {
		t.Fatal(len(text), got, gotErrno, "want", page, errno)
	}
}

// setRoot calls SetRoot and compares its result.
func setRoot(t *testing.T, s *pagestore.Store, page int, errno api.Errno) {
	t.Helper()
	if got := s.SetRoot(page); got != errno {
		t.Fatal(page, got, "want", errno)
	}
}

// read calls Read and compares its results.
func read(t *testing.T, s *pagestore.Store, page int, text string, errno api.Errno) {
	t.Helper()
	if got, gotErrno := s.Read(page); got != text || gotErrno != errno {
		t.Fatal(page, len(got), gotErrno, "want", len(text), errno)
	}
}

// failed returns a store with the pages, of which the first n are durable, that has failed.
func failed(t *testing.T, durable int, texts ...string) *pagestore.Store {
	t.Helper()
	s := with(t, texts[:durable]...)
	if durable > 0 {
		setRoot(t, s, 0, api.OK)
	}
	for i, text := range texts[durable:] {
		appendPage(t, s, text, durable+i, api.OK)
	}
	s.FailAfter(0)
	if errno := operate(s); errno != api.ErrFailed {
		t.Fatal(errno)
	}
	return s
}

// P13.1

func TestExample(t *testing.T) {
	s := with(t, "a")
	setRoot(t, s, 0, api.OK)
	appendPage(t, s, "b", 1, api.OK)
	s.Crash(0)
	if s.Root() != 0 || s.Len() != 1 {
		t.Error(s.Root(), s.Len())
	}
	expect(t, s, state{Pages: []string{"a"}, Durable: 1, Root: 0, Counter: -1})
}

func TestNew(t *testing.T) {
	empty := state{Root: -1, Counter: -1}
	s := pagestore.New()
	expect(t, s, empty)
	appendPage(t, s, "a", 0, api.OK)
	setRoot(t, s, 0, api.OK)
	s.FailAfter(0)
	setRoot(t, s, 0, api.ErrFailed)
	expect(t, pagestore.New(), empty) // another store
}

func TestAppend(t *testing.T) {
	texts := []string{"a", "", "a", "\n", "é\xff\x00", "日本", strings.Repeat("x", maxText-1), strings.Repeat("x", maxText), strings.Repeat("é", maxText/2), "", "- 0 .\n"}
	s := with(t, texts...)
	expect(t, s, state{Pages: texts, Root: -1, Counter: -1})
	if s.Root() != -1 {
		t.Error(s.Root())
	}
	setRoot(t, s, 3, api.OK)
	appendPage(t, s, "end", len(texts), api.OK)
	expect(t, s, state{Pages: append(texts, "end"), Durable: len(texts), Root: 3, Counter: -1})
}

func TestAppendTooLong(t *testing.T) {
	for _, text := range []string{strings.Repeat("x", maxText+1), strings.Repeat("é", maxText/2) + "x", strings.Repeat("日", maxText/3+1), strings.Repeat("x", 1<<20)} {
		s := with(t, "a")
		appendPage(t, s, text, 0, api.ErrArg)
		expect(t, s, state{Pages: []string{"a"}, Root: -1, Counter: -1})
		appendPage(t, s, text[:maxText], 1, api.OK)
		expect(t, s, state{Pages: []string{"a", text[:maxText]}, Root: -1, Counter: -1})
	}
}

func TestFull(t *testing.T) {
	texts := numbered(maxPages)
	s := with(t, texts[:maxPages-1]...)
	expect(t, s, state{Pages: texts[:maxPages-1], Root: -1, Counter: -1})
	appendPage(t, s, texts[maxPages-1], maxPages-1, api.OK)
	for range 3 {
		appendPage(t, s, "more", 0, api.ErrFull)
		expect(t, s, state{Pages: texts, Root: -1, Counter: -1})
	}
	setRoot(t, s, maxPages, api.ErrRange)
	part := s.Clone()
	setRoot(t, s, maxPages-1, api.OK)
	expect(t, s, state{Pages: texts, Durable: maxPages, Root: maxPages - 1, Counter: -1})
	s.Crash(0)
	appendPage(t, s, "", 0, api.ErrFull)
	// A store that has lost a page has room for one again.
	part.Crash(maxPages - 1)
	appendPage(t, part, "other", maxPages-1, api.OK)
	appendPage(t, part, "more", 0, api.ErrFull)
	expect(t, part, state{Pages: append(texts[:maxPages-1:maxPages-1], "other"), Durable: maxPages - 1, Root: -1, Counter: -1})
}

func TestSetRoot(t *testing.T) {
	s := pagestore.New()
	for _, page := range []int{-1, 0, 1, math.MinInt, math.MaxInt} {
		setRoot(t, s, page, api.ErrRange)
		expect(t, s, state{Root: -1, Counter: -1})
	}
	texts := numbered(5)
	s = with(t, texts...)
	setRoot(t, s, 2, api.OK) // also the pages after it become durable
	want := state{Pages: texts, Durable: 5, Root: 2, Counter: -1}
	expect(t, s, want)
	for _, page := range []int{-1, 5, 6, -2, -5, math.MinInt, math.MaxInt} {
		setRoot(t, s, page, api.ErrRange)
		expect(t, s, want)
	}
	for _, page := range []int{4, 4, 0, 1, 3} { // also a lower one than before, and the same
		setRoot(t, s, page, api.OK)
		want.Root = page
		expect(t, s, want)
	}
	appendPage(t, s, "x", 5, api.OK)
	want.Pages = append(want.Pages, "x")
	expect(t, s, want)
	setRoot(t, s, 6, api.ErrRange) // which makes nothing durable
	expect(t, s, want)
	setRoot(t, s, 0, api.OK)
	want.Root, want.Durable = 0, 6
	expect(t, s, want)
}

// P13.2

func TestRead(t *testing.T) {
	texts := []string{"a", "", "é\n", strings.Repeat("z", maxText)}
	s := with(t, texts...)
	for _, durable := range []bool{false, true} {
		if durable {
			setRoot(t, s, 1, api.OK)
		}
		for range 2 {
			for i, text := range texts {
				read(t, s, i, text, api.OK)
			}
			for _, page := range []int{-1, -2, -4, 4, 5, maxPages, math.MinInt, math.MaxInt} {
				read(t, s, page, "", api.ErrRange)
			}
		}
	}
	read(t, pagestore.New(), 0, "", api.ErrRange)
	read(t, pagestore.New(), -1, "", api.ErrRange)
}

// TestFailAfter sets a counter before, between and after operations.
func TestFailAfter(t *testing.T) {
	for before := range 4 {
		for n := range 6 {
			s := with(t, numbered(before)...)
			s.FailAfter(n)
			for i := range n {
				appendPage(t, s, fmt.Sprint(before+i), before+i, api.OK)
			}
			want := state{Pages: numbered(before + n), Root: -1, Counter: 0}
			expect(t, s, want) // the power is lost no sooner than at the next operation
			again := s.Clone()
			for range 3 {
				appendPage(t, s, "x", 0, api.ErrFailed)
				want.Counter, want.Failed = -1, true
				expect(t, s, want)
			}
			if before+n > 0 {
				setRoot(t, again, 0, api.ErrFailed)
				expect(t, again, want)
			}
		}
	}
}

// TestFailAfterMixed has both operations, in every order.
func TestFailAfterMixed(t *testing.T) {
	for n := range 6 {
		for order := range 1 << 7 {
			s := with(t, "0")
			s.FailAfter(n)
			want := state{Pages: []string{"0"}, Root: -1, Counter: n}
			for i := range 7 {
				executed := i < n
				errno := api.OK
				if !executed {
					errno = api.ErrFailed
				}
				if order>>i&1 == 0 {
					page := 0
					if executed {
						page = len(want.Pages)
						want.Pages = append(want.Pages, fmt.Sprint(i))
					}
					appendPage(t, s, fmt.Sprint(i), page, errno)
				} else {
					setRoot(t, s, 0, errno)
					if executed {
						want.Root, want.Durable = 0, len(want.Pages)
					}
				}
				want.Counter--
				want.Failed = !executed
				want.Counter = max(want.Counter, -1)
				expect(t, s, want)
			}
		}
	}
}

// TestFailAfterAgain sets the counter anew, and removes it.
func TestFailAfterAgain(t *testing.T) {
	for _, first := range []int{-1, 0, 1, 2, 5, math.MaxInt, math.MinInt} {
		for _, second := range []int{-1, -2, 0, 1, 2, 5, math.MaxInt, math.MinInt} {
			s := with(t, "a")
			s.FailAfter(first)
			s.FailAfter(second)
			want := state{Pages: []string{"a"}, Root: -1, Counter: second}
			if second < 0 || second > limit {
				want.Counter = -1
			}
			expect(t, s, want)
			if second > 0 {
				setRoot(t, s, 0, api.OK)
				s.FailAfter(first) // after an operation has been counted
				want.Root, want.Durable, want.Counter = 0, 1, first
				if first < 0 || first > limit {
					want.Counter = -1
				}
				expect(t, s, want)
			}
		}
	}
}

func TestFailAfterGreat(t *testing.T) {
	s := with(t, "a")
	s.FailAfter(1000)
	for i := range 1000 {
		if errno := operate(s); errno != api.OK {
			t.Fatal(i, errno)
		}
	}
	setRoot(t, s, 0, api.ErrFailed)
}

// TestNotCounted calls everything that is not an operation, or is rejected.
func TestNotCounted(t *testing.T) {
	full, long := with(t, numbered(maxPages)...), strings.Repeat("x", maxText+1)
	for n := range 4 {
		for i, c := range []struct {
			call  func(s *pagestore.Store) api.Errno
			errno api.Errno
		}{
			{func(s *pagestore.Store) api.Errno { s.Root(); return api.OK }, api.OK},
			{func(s *pagestore.Store) api.Errno { s.Len(); return api.OK }, api.OK},
			{func(s *pagestore.Store) api.Errno { s.Failed(); return api.OK }, api.OK},
			{func(s *pagestore.Store) api.Errno { s.FailAfter(n); return api.OK }, api.OK},
			{func(s *pagestore.Store) api.Errno { s.Clone(); return api.OK }, api.OK},
			{func(s *pagestore.Store) api.Errno { s.Clone().Append("x"); return api.OK }, api.OK},
			{func(s *pagestore.Store) api.Errno { s.Clone().SetRoot(0); return api.OK }, api.OK},
			{func(s *pagestore.Store) api.Errno { _, errno := s.Read(0); return errno }, api.OK},
			{func(s *pagestore.Store) api.Errno { _, errno := s.Read(-1); return errno }, api.ErrRange},
			{func(s *pagestore.Store) api.Errno { _, errno := s.Read(maxPages); return errno }, api.ErrRange},
			{func(s *pagestore.Store) api.Errno { _, errno := s.Append(long); return errno }, api.ErrArg},
			{func(s *pagestore.Store) api.Errno { return s.SetRoot(-1) }, api.ErrRange},
			{func(s *pagestore.Store) api.Errno { return s.SetRoot(2) }, api.ErrRange},
		} {
			s := with(t, "a", "b")
			s.FailAfter(n)
			for range 5 {
				if got := c.call(s); got != c.errno {
					t.Fatal(n, i, got, c.errno)
				}
			}
			expect(t, s, state{Pages: []string{"a", "b"}, Root: -1, Counter: n})
		}
		s := full.Clone()
		s.FailAfter(n)
		for range 5 {
			appendPage(t, s, "x", 0, api.ErrFull)
		}
		expect(t, s, state{Pages: numbered(maxPages), Root: -1, Counter: n})
	}
}

// TestFailed has a store whose power was lost.
func TestFailed(t *testing.T) {
	texts := numbered(4)
	s := failed(t, 2, texts...)
	want := state{Pages: texts, Durable: 2, Root: 0, Counter: -1, Failed: true}
	for _, n := range []int{0, -1, 5, math.MinInt, math.MaxInt} { // the counter does not bring the power back
		expect(t, s, want)
		for range 2 {
			appendPage(t, s, "x", 0, api.ErrFailed)
			for page := range 5 {
				setRoot(t, s, page, api.ErrFailed)
				read(t, s, page, "", api.ErrFailed)
			}
			if s.Root() != 0 || s.Len() != 4 || !s.Failed() {
				t.Fatal(s.Root(), s.Len(), s.Failed())
			}
		}
		s.FailAfter(n)
	}
	expect(t, s, want)
	s = failed(t, 0, "a")
	if s.Root() != -1 || s.Len() != 1 || !s.Failed() {
		t.Fatal(s.Root(), s.Len(), s.Failed())
	}
	s.Crash(1)
	if s.Failed() {
		t.Error("failed")
	}
}

// Errors

// TestFirstError has two errors that apply together.
func TestFirstError(t *testing.T) {
	all, long := numbered(maxPages), strings.Repeat("x", maxText+1)
	full := with(t, all...)
	for _, c := range []struct {
		text    string
		s       *pagestore.Store
		counter int
		errno   api.Errno
	}{
		{long, failed(t, 0, "a"), -1, api.ErrFailed},
		{"x", failed(t, 0, all...), -1, api.ErrFailed},
		{long, failed(t, 0, all...), 0, api.ErrFailed},
		{long, full.Clone(), -1, api.ErrArg},
		{long, full.Clone(), 0, api.ErrArg},
		{long, with(t, "a"), 0, api.ErrArg},
		{"x", full.Clone(), 0, api.ErrFull},
		{"x", with(t, "a"), 0, api.ErrFailed},
	} {
		c.s.FailAfter(c.counter)
		want := stateOf(c.s)
		appendPage(t, c.s, c.text, 0, c.errno)
		if c.errno == api.ErrFailed {
			want.Failed, want.Counter = true, -1
		}
		expect(t, c.s, want) // a call that is rejected does not lose the power
	}
	for _, page := range []int{-1, 1, math.MinInt, math.MaxInt} {
		s := failed(t, 1, "a")
		setRoot(t, s, page, api.ErrFailed)
		read(t, s, page, "", api.ErrFailed)
		s = with(t, "a")
		s.FailAfter(0)
		setRoot(t, s, page, api.ErrRange)
		read(t, s, page, "", api.ErrRange)
		expect(t, s, state{Pages: []string{"a"}, Root: -1, Counter: 0})
	}
}

// P13.3

func TestCrash(t *testing.T) {
	texts := numbered(7)
	for durable := range 5 {
		for _, power := range []string{"on", "off", "counted", "about to go"} {
			for _, keep := range []int{math.MinInt, -8, -1, 0, 1, 2, 3, 6, 7, 8, 1000, math.MaxInt - 1, math.MaxInt} {
				s := with(t, texts[:durable]...)
				root := -1
				if durable > 0 {
					root = durable / 2
					setRoot(t, s, root, api.OK)
				}
				for i := durable; i < len(texts); i++ {
					appendPage(t, s, texts[i], i, api.OK)
				}
				switch power {
				case "off":
					s.FailAfter(0)
					appendPage(t, s, "x", 0, api.ErrFailed)
				case "counted":
					s.FailAfter(5)
				case "about to go":
					s.FailAfter(0)
				}
				s.Crash(keep)
				kept := durable + min(max(keep, 0), len(texts)-durable)
				want := state{Pages: texts[:kept], Durable: kept, Root: root, Counter: -1}
				expect(t, s, want)
				s.Crash(0) // what was kept is durable
				expect(t, s, want)
				s.Crash(keep)
				expect(t, s, want)
				appendPage(t, s, "new", kept, api.OK)
				expect(t, s, state{Pages: append(slices.Clone(texts[:kept]), "new"), Durable: kept, Root: root, Counter: -1})
			}
		}
	}
}

// TestCrashAllDurable has a store that has nothing to lose.
func TestCrashAllDurable(t *testing.T) {
	for _, keep := range []int{-1, 0, 1, math.MaxInt} {
		s := pagestore.New()
		s.Crash(keep)
		expect(t, s, state{Root: -1, Counter: -1})
		s = with(t, "a", "b")
		setRoot(t, s, 1, api.OK)
		s.Crash(keep)
		expect(t, s, state{Pages: []string{"a", "b"}, Durable: 2, Root: 1, Counter: -1})
	}
}

// TestClone changes a store and its copy in turn.
func TestClone(t *testing.T) {
	for _, n := range []int{0, 1, 2, 3, 5, 8, 9, 100} { // with and without room that the two might share
		for durable := range min(n, 3) + 1 {
			for _, counter := range []int{-1, 0, 3} {
				s := with(t, numbered(durable)...)
				root := -1
				if durable > 0 {
					root = durable - 1
					setRoot(t, s, root, api.OK)
				}
				for i := durable; i < n; i++ {
					appendPage(t, s, fmt.Sprint(i), i, api.OK)
				}
				s.FailAfter(counter)
				want := state{Pages: numbered(n), Durable: durable, Root: root, Counter: counter}
				expect(t, s, want)
				for i, change := range changes() {
					x, y := s.Clone(), s.Clone()
					expect(t, x, want)
					change(x)
					expect(t, s, want)
					expect(t, y, want)
					z := x.Clone()
					changed := stateOf(x)
					expect(t, z, changed)
					change(z)
					changes()[(i+1)%len(changes())](z)
					expect(t, x, changed)
				}
				// Both get a page of the same number.
				copied := s.Clone()
				copied.FailAfter(-1)
				s.FailAfter(-1)
				appendPage(t, s, "left", n, api.OK)
				appendPage(t, copied, "right", n, api.OK)
				expect(t, s, state{Pages: append(numbered(n), "left"), Durable: durable, Root: root, Counter: -1})
				expect(t, copied, state{Pages: append(numbered(n), "right"), Durable: durable, Root: root, Counter: -1})
			}
		}
	}
}

// changes returns functions that change a store, each in one regard.
func changes() []func(s *pagestore.Store) {
	return []func(s *pagestore.Store){
		func(s *pagestore.Store) { s.FailAfter(-1); s.Append("x") },
		func(s *pagestore.Store) { s.Append("x") },
		func(s *pagestore.Store) { s.SetRoot(0) },
		func(s *pagestore.Store) { s.SetRoot(s.Len() - 1) },
		func(s *pagestore.Store) { s.FailAfter(7) },
		func(s *pagestore.Store) { s.FailAfter(-1) },
		func(s *pagestore.Store) { s.FailAfter(0); s.Append("x") },
		func(s *pagestore.Store) { s.Crash(0); s.Append("x"); s.Append("y") },
		func(s *pagestore.Store) { s.Crash(1); s.SetRoot(0) },
		func(s *pagestore.Store) { s.Crash(math.MaxInt) },
	}
}

func TestCloneFailed(t *testing.T) {
	s := failed(t, 1, "a", "b", "c")
	want := state{Pages: []string{"a", "b", "c"}, Durable: 1, Counter: -1, Failed: true}
	copied := s.Clone()
	expect(t, copied, want)
	copied.Crash(1)
	expect(t, copied, state{Pages: []string{"a", "b"}, Durable: 2, Counter: -1})
	expect(t, s, want)
	second := s.Clone()
	s.Crash(0)
	expect(t, s, state{Pages: []string{"a"}, Durable: 1, Counter: -1})
	expect(t, second, want)
}

// P13.4

// model is a store that follows the definitions. The counter is nil if there is none.
type model struct {
	pages         []string
	durable, root int
	counter       *int
	failed        bool
}

// executed reports whether an operation is executed, and otherwise lets the store fail.
func (m *model) executed() bool {
	if m.counter == nil {
		return true
	}
	if *m.counter == 0 {
		m.failed = true
		return false
	}
	*m.counter--
	return true
}

func (m *model) append(text string) (int, api.Errno) {
	if m.failed {
		return 0, api.ErrFailed
	}
	if len(text) > maxText {
		return 0, api.ErrArg
	}
	if len(m.pages) == maxPages {
		return 0, api.ErrFull
	}
	if !m.executed() {
		return 0, api.ErrFailed
	}
	m.pages = append(m.pages, text)
	return len(m.pages) - 1, api.OK
}

func (m *model) setRoot(page int) api.Errno {
	if m.failed {
		return api.ErrFailed
	}
	if page < 0 || page >= len(m.pages) {
		return api.ErrRange
	}
	if !m.executed() {
		return api.ErrFailed
	}
	m.root, m.durable = page, len(m.pages)
	return api.OK
}

func (m *model) failAfter(n int) {
	m.counter = nil
	if n >= 0 {
		m.counter = &n
	}
}

func (m *model) crash(keep int) {
	for range keep {
		if m.durable < len(m.pages) {
			m.durable++
		}
	}
	m.pages = slices.Clone(m.pages[:m.durable])
	m.counter, m.failed = nil, false
}

// state returns the state that a store should have.
func (m *model) state() state {
	out := state{Pages: m.pages, Durable: m.durable, Root: m.root, Counter: -1, Failed: m.failed}
	if m.counter != nil && !m.failed {
		out.Counter = *m.counter
	}
	return out
}

// clone returns a copy of the model.
func (m *model) clone() *model {
	out := *m
	out.pages = slices.Clone(m.pages)
	if m.counter != nil {
		n := *m.counter
		out.counter = &n
	}
	return &out
}

// act calls one function of the store and of the model, and compares what they return.
func act(t *testing.T, s *pagestore.Store, m *model, what, n int) {
	t.Helper()
	switch what {
	case 0:
		page, errno := m.append(fmt.Sprint("page ", n))
		appendPage(t, s, fmt.Sprint("page ", n), page, errno)
	case 1:
		page, errno := m.append(strings.Repeat("x", maxText+1))
		appendPage(t, s, strings.Repeat("x", maxText+1), page, errno)
	case 2:
		setRoot(t, s, n, m.setRoot(n))
	case 3:
		s.FailAfter(n)
		m.failAfter(n)
	case 4:
		s.Crash(n)
		m.crash(n)
	}
}

// TestShort calls every short sequence of functions, each on a copy of the store so far.
func TestShort(t *testing.T) {
	calls := []api.Pair{{A: 0}, {A: 1}, {A: 2, B: -1}, {A: 2, B: 0}, {A: 2, B: 1}, {A: 3, B: -1}, {A: 3, B: 0}, {A: 3, B: 1}, {A: 3, B: 2}, {A: 4, B: -1}, {A: 4, B: 0}, {A: 4, B: 1}, {A: 4, B: 9}}
	var visit func(s *pagestore.Store, m *model, depth int)
	visit = func(s *pagestore.Store, m *model, depth int) {
		if depth == 0 {
			return
		}
		for _, call := range calls {
			nextStore, nextModel := s.Clone(), m.clone()
			act(t, nextStore, nextModel, call.A, call.B)
			expect(t, nextStore, nextModel.state())
			visit(nextStore, nextModel, depth-1)
		}
		expect(t, s, m.state())
	}
	visit(pagestore.New(), &model{root: -1}, 4)
}

// TestRandom calls long sequences of functions.
func TestRandom(t *testing.T) {
	r := rand.New(rand.NewSource(1))
	for range 200 {
		s, m := pagestore.New(), &model{root: -1}
		for i := range 200 {
			what := []int{0, 0, 0, 0, 0, 0, 1, 2, 2, 3, 4}[r.Intn(11)]
			n := i
			switch what {
			case 2:
				n = r.Intn(len(m.pages)+3) - 1
			case 3:
				n = r.Intn(12) - 2
			case 4:
				n = r.Intn(8) - 1
			}
			act(t, s, m, what, n)
			expect(t, s, m.state())
		}
	}
}

// TestIntact loses the power at every point of a sequence of commits, and keeps any number of pages.
func TestIntact(t *testing.T) {
	for n := range 14 {
		for keep := range 5 {
			s := pagestore.New()
			s.FailAfter(n)
			root, intact := -1, []string(nil)
			var written []string
			for i := 0; !s.Failed(); i++ {
				if page, errno := s.Append(fmt.Sprint(i)); errno == api.OK {
					written = append(written, fmt.Sprint(page))
				}
				if i%3 == 2 && s.SetRoot(i-1) == api.OK {
					root, intact = i-1, slices.Clone(written)
				}
			}
			s.Crash(keep)
			if s.Root() != root || s.Len() < len(intact) || s.Len() > len(intact)+keep {
				t.Fatal(n, keep, s.Root(), s.Len())
			}
			for i, text := range written[:s.Len()] {
				read(t, s, i, text, api.OK)
			}
		}
	}
}
