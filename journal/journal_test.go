package journal_test

import (
	"fmt"
	"math"
	"math/rand"
	"regexp"
	"slices"
	"strconv"
	"strings"
	"testing"

	"pandect/api"
	"pandect/digest"
	"pandect/journal"
	"pandect/pagestore"
)

const (
	size     = 16320  // bytes of a fragment
	longest  = 261120 // bytes of a string that can be stored
	maxPages = 4096
)

// text returns a string of n bytes of all kinds, which differs with the seed.
func text(seed, n int) string {
	b := make([]byte, n)
	rand.New(rand.NewSource(int64(seed))).Read(b)
	return string(b)
}

// The model: it writes and reads pages as the definitions say.

// pageOf returns the text and the checksum of a page that follows a page with the given checksum, if any.
func pageOf(before, checksum, flag, fragment string) (page, sum string) {
	sum = digest.Sum(checksum + "\n" + flag + "\n" + fragment)
	return fmt.Sprintf("%s %s %s\n%s", before, sum, flag, fragment), sum
}

// part is a page of a chain without what the chain makes of it.
type part struct{ flag, fragment string }

// partsOf returns the pages of strings.
func partsOf(texts ...string) []part {
	var l []part
	for _, s := range texts {
		for at := 0; at == 0 || at < len(s); at += size {
			flag := "."
			if at+size < len(s) {
				flag = "+"
			}
			l = append(l, part{flag, s[at:min(at+size, len(s))]})
		}
	}
	return l
}

// pagesOf returns the texts of the pages of a chain, which have the numbers from first on and follow the page before with the given checksum.
func pagesOf(first int, before, checksum string, parts ...part) []string {
	var l []string
	for i, x := range parts {
		if i > 0 {
			before = fmt.Sprint(first + i - 1)
		}
		var page string
		page, checksum = pageOf(before, checksum, x.flag, x.fragment)
		l = append(l, page)
	}
	return l
}

// chainOf returns the texts of the pages of a chain, which have the numbers from 0 on.
func chainOf(parts ...part) []string { return pagesOf(0, "-", "", parts...) }

// sumOf returns the checksum that a page names.
func sumOf(page string) string { return strings.Split(page, " ")[1] }

var headerForm = regexp.MustCompile(`\A(-|0|[1-9][0-9]*) ([0-9a-f]{16}) ([+.])\z`)

// stringsOf returns the strings of the chain of the pages with the given root, if it is valid.
func stringsOf(root int, pages []string) ([]string, bool) {
	if root == -1 {
		return nil, true
	}
	var chain [][]string
	for number := root; ; {
		header, fragment, ok := strings.Cut(pages[number], "\n")
		m := headerForm.FindStringSubmatch(header)
		if m == nil || !ok {
			return nil, false
		}
		chain = append([][]string{append(m, fragment)}, chain...)
		if m[1] == "-" {
			break
		}
		before, err := strconv.Atoi(m[1])
		if err != nil || before >= number {
			return nil, false
		}
		number = before
	}
	var out []string
	var fragments []part
	joined, checksum := "", ""
	for _, m := range chain {
		if m[2] != digest.Sum(checksum+"\n"+m[3]+"\n"+m[4]) {
			return nil, false
		}
		checksum = m[2]
		fragments = append(fragments, part{m[3], m[4]})
		joined += m[4]
		if m[3] == "." {
			if !slices.Equal(fragments, partsOf(joined)) {
				return nil, false
			}
			out, fragments, joined = append(out, joined), nil, ""
		}
	}
	return out, fragments == nil
}

// storeOf returns a store with the pages and the root.
func storeOf(t *testing.T, root int, pages ...string) *pagestore.Store {
	t.Helper()
	s := pagestore.New()
	for _, page := range pages {
		if _, errno := s.Append(page); errno != api.OK {
			t.Fatal(errno)
		}
	}
	if root >= 0 && s.SetRoot(root) != api.OK {
		t.Fatal(root)
	}
	return s
}

// pagesIn returns the texts of the store's pages, also if it has failed.
func pagesIn(s *pagestore.Store) []string {
	s = s.Clone()
	s.Crash(math.MaxInt)
	var l []string
	for i := range s.Len() {
		page, _ := s.Read(i)
		l = append(l, page)
	}
	return l
}

// expectPages compares the pages and the root of the store.
func expectPages(t *testing.T, s *pagestore.Store, root int, pages ...string) {
	t.Helper()
	got := pagesIn(s)
	if s.Root() != root || len(got) != len(pages) {
		t.Fatal("root", s.Root(), "pages", len(got), "want", root, len(pages))
	}
	for i := range pages {
		if got[i] != pages[i] {
			t.Fatalf("page %d: %d bytes %.60q, want %d bytes %.60q", i, len(got[i]), got[i], len(pages[i]), pages[i])
		}
	}
}

// expect compares the strings of the journal.
func expect(t *testing.T, j *journal.Journal, committed int, texts ...string) {
	t.Helper()
	if j.Len() != len(texts) || j.Committed() != committed {
		t.Fatal(j.Len(), j.Committed(), "want", len(texts), committed)
	}
	if !slices.Equal(j.All(), texts) {
		t.Fatal("All")
	}
	for i, text := range texts {
		if got, errno := j.At(i); got != text || errno != api.OK {
			t.Fatal(i, len(got), errno)
		}
	}
	for _, i := range []int{-1, len(texts), len(texts) + 1, math.MinInt, math.MaxInt} {
		if got, errno := j.At(i); got != "" || errno != api.ErrRange {
			t.Fatal(i, len(got), errno)
		}
	}
}

// open opens a journal on the store, and compares it with the strings.
func open(t *testing.T, s *pagestore.Store, texts ...string) *journal.Journal {
	t.Helper()
	root, pages := s.Root(), pagesIn(s)
	if n, errno := journal.Verify(s); n != len(texts) || errno != api.OK {
		t.Fatal("Verify", n, errno, "want", len(texts))
	}
	j, errno := journal.Open(s)
	if j == nil || errno != api.OK {
		t.Fatal("Open", errno)
	}
	expect(t, j, len(texts), texts...)
	expectPages(t, s, root, pages...)
	return j
}

// reject opens and verifies a store that cannot be opened.
func reject(t *testing.T, s *pagestore.Store, errno api.Errno) {
	t.Helper()
	if n, got := journal.Verify(s); n != 0 || got != errno {
		t.Fatal("Verify", n, got, "want", errno)
	}
	if j, got := journal.Open(s); j != nil || got != errno {
		t.Fatal("Open", j != nil, got, "want", errno)
	}
}

// add appends a string, and compares the results.
func add(t *testing.T, j *journal.Journal, text string, index int, errno api.Errno) {
	t.Helper()
	if got, gotErrno := j.Append(text); got != index || gotErrno != errno {
		t.Fatal(len(text), got, gotErrno, "want", index, errno)
	}
}

// commit commits, and compares the result.
func commit(t *testing.T, j *journal.Journal, errno api.Errno) {
	t.Helper()
	if got := j.Commit(); got != errno {
		t.Fatal(got, "want", errno)
	}
}

// journalOf returns a journal with the strings, of which the first n are committed, and its store.
func journalOf(t *testing.T, committed int, texts ...string) (*journal.Journal, *pagestore.Store) {
	t.Helper()
	s := pagestore.New()
	j := open(t, s)
	for i, text := range texts {
		if i == committed {
			commit(t, j, api.OK)
		}
		add(t, j, text, i, api.OK)
	}
	if committed == len(texts) {
		commit(t, j, api.OK)
	}
	return j, s
}

// P14.1 and P14.2

func TestExample(t *testing.T) {
	s := pagestore.New()
	j := open(t, s)
	add(t, j, "a", 0, api.OK)
	commit(t, j, api.OK)
	add(t, j, "b", 1, api.OK)
	expectPages(t, s, 0, "- 72343c16199ab697 .\na", "0 07604bb22837860f .\nb")
	s.Crash(1)
	open(t, s, "a")
	expectPages(t, s, 0, "- 72343c16199ab697 .\na", "0 07604bb22837860f .\nb")
}

func TestEmpty(t *testing.T) {
	s := pagestore.New()
	j := open(t, s)
	expectPages(t, s, -1)
	commit(t, j, api.OK)
	commit(t, j, api.OK)
	expect(t, j, 0)
	expectPages(t, s, -1)
	s.FailAfter(0)
	commit(t, j, api.OK) // which is not an operation of the store
	if s.Failed() {
		t.Error("failed")
	}
	s.SetRoot(0)
	s.Append("")
	if !s.Failed() {
		t.Error("not failed")
	}
	commit(t, j, api.OK)
	expect(t, j, 0)
}

// TestPageText has the exact text of pages.
func TestPageText(t *testing.T) {
	full := strings.Repeat("x", size)
	for _, c := range []struct {
		texts, pages []string
	}{
		{nil, nil},
		{[]string{""}, []string{"- cd75c750e090a34c .\n"}},
		{[]string{"a"}, []string{"- 72343c16199ab697 .\na"}},
		{[]string{full + "x"}, []string{"- 8ff449fea161375f +\n" + full, "0 be3dd00c19bb0f2e .\nx"}},
		{[]string{"a", "", "b\n"}, chainOf(part{".", "a"}, part{".", ""}, part{".", "b\n"})},
		{[]string{"", ""}, chainOf(part{".", ""}, part{".", ""})},
		{[]string{full}, chainOf(part{".", full})},
		{[]string{"a", full + full, full + full + "y", ""}, chainOf(part{".", "a"}, part{"+", full}, part{".", full}, part{"+", full}, part{"+", full}, part{".", "y"}, part{".", ""})},
	} {
		j, s := journalOf(t, 0, c.texts...)
		expectPages(t, s, -1, c.pages...)
		expect(t, j, 0, c.texts...)
		commit(t, j, api.OK)
		expectPages(t, s, len(c.pages)-1, c.pages...)
		expect(t, j, len(c.texts), c.texts...)
		open(t, s, c.texts...)
	}
}

// TestManyStrings has page numbers of one digit and more.
func TestManyStrings(t *testing.T) {
	var texts []string
	for i := range 1200 {
		texts = append(texts, fmt.Sprint("text ", i))
	}
	j, s := journalOf(t, 500, texts...)
	expect(t, j, 500, texts...)
	expectPages(t, s, 499, chainOf(partsOf(texts...)...)...)
	open(t, s, texts[:500]...)
	commit(t, j, api.OK)
	expectPages(t, s, 1199, chainOf(partsOf(texts...)...)...)
	open(t, s, texts...)
}

// TestSizes has strings at the bounds of fragments.
func TestSizes(t *testing.T) {
	for _, n := range []int{0, 1, 2, 24, size - 1, size, size + 1, 2*size - 1, 2 * size, 2*size + 1, 16384, 15 * size, 15*size + 1, longest - 1, longest} {
		s := pagestore.New()
		j := open(t, s)
		first, second := text(1, n), text(2, n)
		add(t, j, first, 0, api.OK)
		add(t, j, second, 1, api.OK)
		expectPages(t, s, -1, chainOf(partsOf(first, second)...)...)
		commit(t, j, api.OK)
		open(t, s, first, second)
		want := 2
		if n > 0 {
			want = 2 * ((n + size - 1) / size)
		}
		if s.Len() != want || s.Root() != want-1 {
			t.Error(n, s.Len(), s.Root())
		}
	}
}

func TestTooLong(t *testing.T) {
	s := pagestore.New()
	j := open(t, s)
	for _, n := range []int{longest + 1, longest + size, 2 * longest, 1 << 26} {
		add(t, j, strings.Repeat("a", n), 0, api.ErrArg)
		expect(t, j, 0)
		expectPages(t, s, -1)
	}
	add(t, j, "a", 0, api.OK)
	commit(t, j, api.OK)
	add(t, j, text(1, longest+1), 0, api.ErrArg)
	expect(t, j, 1, "a")
	expectPages(t, s, 0, chainOf(part{".", "a"})...)
	s.FailAfter(0)
	add(t, j, text(1, longest+1), 0, api.ErrArg) // the store is not asked
	if s.Failed() {
		t.Error("failed")
	}
	add(t, j, "b", 0, api.ErrFailed)
	add(t, j, text(1, longest+1), 0, api.ErrArg) // the first of two errors
	expect(t, j, 1, "a")
}

// TestBytes has strings with all bytes, and ones that look like pages.
func TestBytes(t *testing.T) {
	var all []byte
	for i := range 256 {
		all = append(all, byte(i))
	}
	page := chainOf(part{".", "a"})[0]
	texts := []string{string(all), "\n", "\n\n", " ", "\x00", "é", "日本\n", "\xff\xfe", "-", "+", ".", "- ", page, page + "\n" + page, "0 " + sumOf(page) + " +\n", text(1, size-1) + "\n", text(2, size-1) + "é", strings.Repeat("\n", size+1), strings.Repeat("日", size)}
	j, s := journalOf(t, 3, texts...)
	expect(t, j, 3, texts...)
	open(t, s, texts[:3]...)
	commit(t, j, api.OK)
	expectPages(t, s, s.Len()-1, chainOf(partsOf(texts...)...)...)
	open(t, s, texts...)
}

func TestCommit(t *testing.T) {
	j, s := journalOf(t, 0, "a", "b")
	expect(t, j, 0, "a", "b")
	for range 3 {
		commit(t, j, api.OK)
		expect(t, j, 2, "a", "b")
		open(t, s, "a", "b")
	}
	add(t, j, "c", 2, api.OK)
	expect(t, j, 2, "a", "b", "c")
	open(t, s, "a", "b")
	commit(t, j, api.OK)
	expect(t, j, 3, "a", "b", "c")
	open(t, s, "a", "b", "c")
	add(t, j, text(1, 3*size), 3, api.OK)
	expect(t, j, 3, "a", "b", "c", text(1, 3*size))
	if s.Root() != 2 || s.Len() != 6 {
		t.Error(s.Root(), s.Len())
	}
	commit(t, j, api.OK)
	if s.Root() != 5 {
		t.Error(s.Root())
	}
	open(t, s, "a", "b", "c", text(1, 3*size))
}

// TestContinue goes on with a journal that has been opened again, without a crash.
func TestContinue(t *testing.T) {
	s := pagestore.New()
	var texts []string
	for i := range 6 {
		j := open(t, s, texts...)
		for k := range i {
			texts = append(texts, text(i, k*size+k%2))
			add(t, j, texts[len(texts)-1], len(texts)-1, api.OK)
		}
		commit(t, j, api.OK)
		expect(t, j, len(texts), texts...)
	}
	expectPages(t, s, s.Len()-1, chainOf(partsOf(texts...)...)...)
}

// TestAll changes what All returned.
func TestAll(t *testing.T) {
	j, s := journalOf(t, 1, "a", "b", "c")
	first := j.All()
	first[0], first[2] = "x", "y"
	first = append(first, "z")
	expect(t, j, 1, "a", "b", "c")
	second := j.All()
	add(t, j, "d", 3, api.OK)
	if !slices.Equal(second, []string{"a", "b", "c"}) || first[3] != "z" {
		t.Error(first, second)
	}
	_ = append(second[:3:cap(second)], "x")
	expect(t, j, 1, "a", "b", "c", "d")
	commit(t, j, api.OK)
	j = open(t, s, "a", "b", "c", "d")
	third := j.All()
	third[1] = "x"
	expect(t, j, 4, "a", "b", "c", "d")
	empty := open(t, pagestore.New())
	if got := empty.All(); len(got) != 0 {
		t.Error(got)
	}
}

// TestTwoJournals has journals on different stores, one of which is a copy.
func TestTwoJournals(t *testing.T) {
	j, s := journalOf(t, 2, "a", "b", "c")
	copied := s.Clone()
	other := open(t, copied, "a", "b")
	add(t, other, "x", 2, api.OK)
	commit(t, other, api.OK)
	add(t, j, "d", 3, api.OK)
	expect(t, j, 2, "a", "b", "c", "d")
	expect(t, other, 3, "a", "b", "x")
	open(t, s, "a", "b")
	open(t, copied, "a", "b", "x")
}

// TestEmbedding calls functions of the store that the journal has from it.
func TestEmbedding(t *testing.T) {
	j, s := journalOf(t, 1, "a", "b")
	if j.Root() != 0 || j.Failed() || j.Len() != 2 || s.Len() != 2 {
		t.Error(j.Root(), j.Failed())
	}
	if page, errno := j.Read(1); page != chainOf(partsOf("a", "b")...)[1] || errno != api.OK {
		t.Error(page, errno)
	}
	s.FailAfter(0)
	add(t, j, "c", 0, api.ErrFailed)
	if !j.Failed() {
		t.Error("not failed")
	}
}

// Errors of Open and Verify

func TestStores(t *testing.T) {
	reject(t, nil, api.ErrArg)
	broken := []string{"not a page"}
	reject(t, storeOf(t, 0, broken...), api.ErrBroken)
	for _, pages := range [][]string{nil, broken, chainOf(partsOf("a", "b")...)} {
		s := storeOf(t, len(pages)-1, pages...)
		s.FailAfter(0)
		s.Append("x")
		if !s.Failed() {
			t.Fatal("not failed")
		}
		reject(t, s, api.ErrFailed) // also if the chain is not valid
	}
	s := storeOf(t, 1, chainOf(partsOf("a", "b")...)...)
	s.FailAfter(0)
	open(t, s, "a", "b") // a counter alone does not matter
	s = pagestore.New()
	for range 3 { // without a root, whatever the pages are
		s.Append("not a page")
		open(t, s)
	}
}

// TestHeaders has pages whose header is not what it should be.
func TestHeaders(t *testing.T) {
	full := strings.Repeat("x", size)
	pages := chainOf(partsOf("a", full+"b", "", "c d")...)
	open(t, storeOf(t, 4, pages...), "a", full+"b", "", "c d")
	for number, page := range pages {
		header, fragment, _ := strings.Cut(page, "\n")
		fields := strings.Split(header, " ")
		before, sum, flag, body := fields[0], fields[1], fields[2], "\n"+fragment
		rest := page[len(before):]
		otherFlag := map[string]string{"+": ".", ".": "+"}[flag]
		for _, c := range []string{
			"", header, "\n", body, " " + body, "  " + body, fragment, page[1:], " " + page, "\n" + page,
			// Fields that are missing, and more of them.
			sum + " " + flag + body, before + " " + flag + body, before + " " + sum + body, before + body, sum + body, flag + body,
			rest, before + "  " + flag + body, before + " " + sum + " " + body, header + " " + body, header + " " + flag + body, header + " x" + body,
			before + " " + page, before + " " + sum + rest, before + " x" + rest,
			// Other separators.
			before + " " + rest, before + " " + sum + "  " + flag + body, before + "\t" + rest[1:], before + " " + sum + "\t" + flag + body, before + sum + flag + body, before + " " + sum + flag + body, before + rest[1:],
			before + "\n" + sum + "\n" + flag + body, before + "," + sum + "," + flag + body, before + "\u00a0" + rest[1:],
			// Without the line feed, with another one, or with more of it.
			header + fragment, header + " " + fragment, header + "\r" + fragment, header + "\r" + body, header + "\n" + body, header + "\x00" + fragment, header + `\n` + fragment,
			// Other numbers.
			"+" + page, "-" + page, "0" + page, "00" + page, before + ".0" + rest, "0x" + page, before + "_" + rest, "_" + rest, "x" + rest, "٣" + rest,
			"-0" + rest, "-1" + rest, "--" + rest, "−" + rest, "*" + rest, "+" + rest, "1e0" + rest, "99999999999999999999" + rest, "-99999999999999999999" + rest, "18446744073709551616" + rest,
			fmt.Sprint(number) + rest, fmt.Sprint(number+1) + rest, fmt.Sprint(len(pages)) + rest, fmt.Sprint(math.MaxInt) + rest, fmt.Sprint(math.MinInt) + rest, "4095" + rest, "4096" + rest,
			// Other checksums.
			before + " " + strings.ToUpper(sum) + " " + flag + body, before + " " + sum[1:] + " " + flag + body, before + " 0" + rest[1:], before + " 0" + sum[1:] + " " + flag + body, before + " " + sum[:15] + " " + flag + body, before + " 0000000000000000 " + flag + body,
			before + " " + digest.Sum(fragment) + " " + flag + body, before + " " + digest.Sum(page) + " " + flag + body,
			// Other flags.
			before + " " + sum + " " + otherFlag + body, before + " " + sum + " -" + body, before + " " + sum + " .." + body, before + " " + sum + " +." + body, before + " " + sum + " *" + body, before + " " + sum + " \x00" + body,
			// Another fragment.
			page + "x", page + "\n", page + "\x00", header + body + "X", header + "\nx" + fragment,
		} {
			broken := slices.Clone(pages)
			broken[number] = c[:min(len(c), api.MaxText)]
			if _, ok := stringsOf(4, broken); ok {
				t.Fatalf("page %d: %.60q", number, c)
			}
			reject(t, storeOf(t, 4, broken...), api.ErrBroken)
			if number < 3 { // the page is not in the chain of the fourth page alone
				broken[3], _ = pageOf("-", "", ".", "alone")
				open(t, storeOf(t, 3, broken...), "alone")
			}
		}
	}
}

// TestFlags has pages whose checksums are right, and whose flags are not flags.
func TestFlags(t *testing.T) {
	for _, flag := range []string{"", "-", "..", "++", "+.", ". ", " .", "x", "\x00", "0", ".\r", "é", "."} {
		page, _ := pageOf("-", "", flag, "a")
		if flag == "." {
			open(t, storeOf(t, 0, page), "a")
			continue
		}
		reject(t, storeOf(t, 0, page), api.ErrBroken)
		full := chainOf(part{flag, strings.Repeat("x", size)}, part{".", "a"})
		reject(t, storeOf(t, 1, full...), api.ErrBroken)
	}
}

// TestPrevious has pages that are right but for the page that they follow.
func TestPrevious(t *testing.T) {
	a, sum := pageOf("-", "", ".", "a")
	for _, before := range []string{"1", "2", "4", "01", "+0", "-0", "-1", "00", "4096", "", "x", "0x0", "٠", "99999999999999999999"} {
		page, _ := pageOf(before, sum, ".", "b")
		reject(t, storeOf(t, 1, a, page), api.ErrBroken)
		reject(t, storeOf(t, 1, a, page, a, a, a), api.ErrBroken) // the number of another page that exists
	}
	good, goodSum := pageOf("0", sum, ".", "b")
	open(t, storeOf(t, 1, a, good), "a", "b")
	// Another page before it, in place of the one that it was written for.
	for _, c := range []struct {
		before, checksum string
	}{{"-", sum}, {"0", ""}, {"0", goodSum}, {"0", digest.Sum("")}} {
		page, _ := pageOf(c.before, c.checksum, ".", "b")
		reject(t, storeOf(t, 1, a, page), api.ErrBroken)
	}
	// A page that follows itself, a later page, and two that follow each other.
	itself, _ := pageOf("0", "", ".", "a")
	reject(t, storeOf(t, 0, itself), api.ErrBroken)
	later, _ := pageOf("1", "", ".", "a")
	reject(t, storeOf(t, 0, later, a), api.ErrBroken)
	reject(t, storeOf(t, 1, later, good), api.ErrBroken)
	reject(t, storeOf(t, 0, later, good), api.ErrBroken)
	itself, _ = pageOf("1", sum, ".", "b")
	reject(t, storeOf(t, 1, a, itself), api.ErrBroken)
	// The first page is not marked as such, or a page in the middle is.
	for _, before := range []string{"0", "--", "–", ""} {
		first, firstSum := pageOf(before, "", ".", "a")
		second, _ := pageOf("0", firstSum, ".", "b")
		reject(t, storeOf(t, 0, first), api.ErrBroken)
		reject(t, storeOf(t, 1, first, second), api.ErrBroken)
	}
	alone, aloneSum := pageOf("-", "", ".", "b")
	open(t, storeOf(t, 1, a, alone), "b") // its chain is that page alone
	third, _ := pageOf("1", aloneSum, ".", "c")
	open(t, storeOf(t, 2, a, alone, third), "b", "c")
	third, _ = pageOf("0", aloneSum, ".", "c")
	reject(t, storeOf(t, 2, a, alone, third), api.ErrBroken)
}

// TestDivision has chains whose pages have the right format, and strings that are not divided as they should be.
func TestDivision(t *testing.T) {
	full, room := strings.Repeat("x", size), api.MaxText-size-21
	for _, c := range []struct {
		valid bool
		parts []part
	}{
		{true, []part{{".", ""}}},
		{true, []part{{".", full}}},
		{true, []part{{"+", full}, {".", full}}},
		{true, []part{{"+", full}, {".", "x"}}},
		{true, []part{{"+", full}, {"+", full}, {".", full[1:]}}},
		{true, []part{{".", "a"}, {"+", full}, {".", "x"}, {".", ""}}},
		// The root does not end a string.
		{false, []part{{"+", ""}}},
		{false, []part{{"+", "a"}}},
		{false, []part{{"+", full}}},
		{false, []part{{".", "a"}, {"+", full}}},
		{false, []part{{".", "a"}, {".", "b"}, {"+", "c"}}},
		{false, []part{{"+", full}, {"+", full}}},
		// A fragment that is too short, at any place but the last.
		{false, []part{{"+", ""}, {".", ""}}},
		{false, []part{{"+", ""}, {".", "a"}}},
		{false, []part{{"+", "a"}, {".", ""}}},
		{false, []part{{"+", "a"}, {".", "b"}}},
		{false, []part{{"+", full[1:]}, {".", "a"}}},
		{false, []part{{"+", full[1:]}, {".", full}}},
		{false, []part{{"+", full}, {"+", full[1:]}, {".", "a"}}},
		{false, []part{{"+", full}, {"+", ""}, {".", "a"}}},
		{false, []part{{"+", full[1:]}, {"+", full}, {".", "a"}}},
		{false, []part{{".", "a"}, {"+", full[1:]}, {".", "a"}, {".", "b"}}},
		// A fragment that is too long.
		{false, []part{{".", full + "x"}}},
		{false, []part{{".", full + full[:room]}}},
		{false, []part{{"+", full + "x"}, {".", "a"}}},
		{false, []part{{"+", full + "x"}, {".", full[1:]}}},
		{false, []part{{"+", full}, {".", full + "x"}}},
		{false, []part{{"+", full}, {"+", full + "x"}, {".", "a"}}},
		{false, []part{{"+", full[1:]}, {"+", full + "x"}, {".", "a"}}},
		{false, []part{{"+", full + "x"}, {"+", full[1:]}, {".", "a"}}},
		{false, []part{{".", "a"}, {".", full + "x"}, {".", "b"}}},
		// The last fragment is empty, although it is not the only one.
		{false, []part{{"+", full}, {".", ""}}},
		{false, []part{{"+", full}, {"+", full}, {".", ""}}},
		{false, []part{{".", "a"}, {"+", full}, {".", ""}, {".", "b"}}},
	} {
		pages := chainOf(c.parts...)
		s := storeOf(t, len(pages)-1, pages...)
		want, ok := stringsOf(len(pages)-1, pages)
		if ok != c.valid {
			t.Fatal(len(c.parts), ok)
		}
		if c.valid {
			open(t, s, want...)
		} else {
			reject(t, s, api.ErrBroken)
		}
	}
}

// TestRoots has every page of a chain as the root: those that end a string are valid ones.
func TestRoots(t *testing.T) {
	texts := []string{"a", text(1, 3*size), "", text(2, size), text(3, size+1), "b"}
	pages := chainOf(partsOf(texts...)...)
	ends := 0
	for root, x := range partsOf(texts...) {
		if x.flag == "." {
			ends++
			open(t, storeOf(t, root, pages...), texts[:ends]...)
		} else {
			reject(t, storeOf(t, root, pages...), api.ErrBroken)
		}
	}
}

// TestUnusedPages has a chain with pages in between that are anything at all.
func TestUnusedPages(t *testing.T) {
	unused := []string{"", "x", "- ", strings.Repeat("x", api.MaxText), "0 0 .\n", "4 72343c16199ab697 .\na", "- 72343c16199ab697 .\na", "- 72343c16199ab697 +\na"}
	var pages []string
	before, checksum := "-", ""
	var texts []string
	for i := range 12 {
		pages = append(pages, slices.Repeat(unused, 2)[i%8:i%8+i%4]...)
		texts = append(texts, text(i, i%3*size+i%2))
		for _, x := range partsOf(texts[i]) {
			pages = append(pages, unused[i%8])
			var page string
			page, checksum = pageOf(before, checksum, x.flag, x.fragment)
			before = fmt.Sprint(len(pages))
			pages = append(pages, page)
		}
		root := len(pages) - 1
		s := storeOf(t, root, append(slices.Clone(pages), unused[:i%5]...)...)
		open(t, s, texts...)
		// The journal goes on behind the unused pages.
		j := open(t, s, texts...)
		first := s.Len()
		add(t, j, "next", len(texts), api.OK)
		add(t, j, text(1, size+1), len(texts)+1, api.OK)
		commit(t, j, api.OK)
		want := pagesOf(first, fmt.Sprint(root), checksum, partsOf("next", text(1, size+1))...)
		expectPages(t, s, first+2, slices.Concat(pages, unused[:i%5], want)...)
		open(t, s, append(slices.Clone(texts), "next", text(1, size+1))...)
	}
	// Without a root, the first page of the journal need not be page 0.
	s := storeOf(t, -1, unused...)
	j := open(t, s)
	add(t, j, "a", 0, api.OK)
	add(t, j, "b", 1, api.OK)
	commit(t, j, api.OK)
	expectPages(t, s, 9, append(slices.Clone(unused), pagesOf(8, "-", "", partsOf("a", "b")...)...)...)
	open(t, s, "a", "b")
}

// TestChanged changes every byte of the pages of a chain in some ways, or removes it, or puts another one before it.
func TestChanged(t *testing.T) {
	pages := chainOf(partsOf("a", "", "b\nc", "0", "- 1 .\n")...)
	pages = append(pages, pagesOf(5, "2", sumOf(pages[2]), partsOf("d", "e")...)...)
	root := len(pages) - 1
	for number, page := range pages {
		for at := range len(page) + 1 {
			for _, b := range "\n +-.0123456789abcdefx\x00" {
				changed := []string{page[:at] + string(b) + page[at:]}
				if at < len(page) {
					changed = append(changed, page[:at]+string(b)+page[at+1:], page[:at]+page[at+1:])
				}
				for _, c := range changed {
					broken := slices.Clone(pages)
					broken[number] = c
					s := storeOf(t, root, broken...)
					if want, ok := stringsOf(root, broken); ok {
						open(t, s, want...)
					} else {
						reject(t, s, api.ErrBroken)
					}
				}
			}
		}
	}
}

// TestRandomChains has pages that follow other pages than the last one, with right and wrong parts.
func TestRandomChains(t *testing.T) {
	r := rand.New(rand.NewSource(3))
	full := strings.Repeat("x", size)
	valid := 0
	for range 1500 {
		var pages, sums []string
		for i := range 1 + r.Intn(8) {
			before, checksum := "-", ""
			if n := i - 1 - r.Intn(2); n >= 0 && r.Intn(6) > 0 {
				before, checksum = fmt.Sprint(n), sums[n]
			}
			if r.Intn(30) == 0 {
				before = fmt.Sprint(r.Intn(9) - 1)
			}
			x := []part{{".", ""}, {".", "a"}, {".", "b"}, {".", full}, {"+", full}, {"+", full}, {"+", "a"}, {"+", ""}}[r.Intn(8-r.Intn(3))]
			page, sum := pageOf(before, checksum, x.flag, x.fragment)
			pages, sums = append(pages, page), append(sums, sum)
		}
		for root := range pages {
			s := storeOf(t, root, pages...)
			if want, ok := stringsOf(root, pages); ok {
				valid++
				open(t, s, want...)
			} else {
				reject(t, s, api.ErrBroken)
			}
		}
	}
	if valid < 500 {
		t.Error(valid)
	}
}

// Errors of Append and Commit

// TestAppendFails has a store that fails at each fragment.
func TestAppendFails(t *testing.T) {
	for _, committed := range []int{0, 1, 2} {
		for _, fragments := range []int{1, 2, 5, 16} {
			for n := range fragments {
				for _, keep := range []int{0, 1, 2, 3, math.MaxInt} {
					j, s := journalOf(t, committed, "a", text(1, size+1))
					before := pagesIn(s)
					root := s.Root()
					failing := text(2, fragments*size)
					s.FailAfter(n)
					add(t, j, failing, 0, api.ErrFailed)
					// What the journal holds, and the pages that remain unused.
					for range 2 {
						expect(t, j, committed, "a", text(1, size+1))
						expectPages(t, s, root, chainOf(partsOf("a", text(1, size+1), failing)...)[:len(before)+n]...)
						add(t, j, failing, 0, api.ErrFailed)
						add(t, j, "", 0, api.ErrFailed)
						commit(t, j, api.ErrFailed)
					}
					s.Crash(keep)
					held := []string{"a", text(1, size+1)}[:committed]
					j = open(t, s, held...)
					first, checksum, name := s.Len(), "", "-"
					if root >= 0 {
						checksum, name = sumOf(before[root]), fmt.Sprint(root)
					}
					left := pagesIn(s)
					add(t, j, failing, committed, api.OK)
					commit(t, j, api.OK)
					expectPages(t, s, s.Len()-1, append(left, pagesOf(first, name, checksum, partsOf(failing)...)...)...)
					open(t, s, append(slices.Clone(held), failing)...)
				}
			}
		}
	}
}

// TestAppendFull has a store that is full at each fragment.
func TestAppendFull(t *testing.T) {
	for _, c := range []struct {
		room, fragments int
		fits            bool
	}{{0, 1, false}, {0, 16, false}, {1, 1, true}, {1, 2, false}, {2, 2, true}, {2, 5, false}, {4, 5, false}, {5, 5, true}, {15, 16, false}, {16, 16, true}} {
		s := storeOf(t, -1, slices.Repeat([]string{"unused"}, maxPages-c.room-2)...)
		j := open(t, s)
		add(t, j, "a", 0, api.OK)
		commit(t, j, api.OK)
		add(t, j, "b", 1, api.OK)
		long := text(1, c.fragments*size)
		if c.fits {
			add(t, j, long, 2, api.OK)
			expect(t, j, 1, "a", "b", long)
			commit(t, j, api.OK)
			expect(t, j, 3, "a", "b", long)
			open(t, s, "a", "b", long)
		} else {
			add(t, j, long, 0, api.ErrFull)
			expect(t, j, 1, "a", "b")
			add(t, j, "", 0, api.ErrFull) // the pages that were written remain
			commit(t, j, api.OK)
			expect(t, j, 2, "a", "b")
			if s.Root() != maxPages-c.room-1 {
				t.Error(c, s.Root())
			}
			open(t, s, "a", "b")
			s.Crash(0)
			open(t, s, "a", "b")
		}
		if s.Len() != maxPages || s.Failed() {
			t.Error(c, s.Len())
		}
		if j, errno := journal.Open(s); errno != api.OK {
			t.Error(errno)
		} else {
			add(t, j, text(1, longest+1), 0, api.ErrArg) // the first of two errors
			add(t, j, "", 0, api.ErrFull)
		}
	}
}

func TestCommitFails(t *testing.T) {
	for committed := range 4 {
		for _, keep := range []int{0, 1, 2, 3, math.MaxInt} {
			texts := []string{"a", text(1, size+1), "c"}
			j, s := journalOf(t, committed, texts...)
			root, pages := s.Root(), pagesIn(s)
			s.FailAfter(0)
			for range 2 {
				commit(t, j, api.ErrFailed)
				expect(t, j, committed, texts...)
				expectPages(t, s, root, pages...)
			}
			reject(t, s, api.ErrFailed)
			add(t, j, "d", 0, api.ErrFailed)
			expect(t, j, committed, texts...)
			s.Crash(keep)
			open(t, s, texts[:committed]...)
		}
	}
}

// P14.3

// TestCrashes loses the power before every operation of a sequence of strings and commits, keeps any number of pages, goes on, and loses it once more.
func TestCrashes(t *testing.T) {
	long := text(1, 2*size+1)
	steps := []string{"a", "commit", "", long, "b", "commit", "commit", text(2, size), long, "commit", "c", "c"}
	for n := range 24 {
		for keep := -1; keep <= 9; keep++ {
			s := pagestore.New()
			j := open(t, s)
			s.FailAfter(n)
			var held, committed []string
			for _, step := range steps {
				if step == "commit" {
					if j.Commit() == api.OK {
						committed = slices.Clone(held)
					}
				} else if i, errno := j.Append(step); errno == api.OK {
					if i != len(held) {
						t.Fatal(i, len(held))
					}
					held = append(held, step)
				}
			}
			expect(t, j, len(committed), held...)
			s.Crash(keep)
			j = open(t, s, committed...)
			add(t, j, long, len(committed), api.OK)
			add(t, j, "next", len(committed)+1, api.OK)
			s.Crash(keep) // after which the journal must be opened again
			j = open(t, s, committed...)
			add(t, j, "next", len(committed), api.OK)
			commit(t, j, api.OK)
			add(t, j, long, len(committed)+1, api.OK)
			expect(t, j, len(committed)+1, append(slices.Clone(committed), "next", long)...)
			s.Crash(keep)
			open(t, s, append(slices.Clone(committed), "next")...)
			s.Crash(keep)
			open(t, s, append(slices.Clone(committed), "next")...)
		}
	}
}

// TestRandom calls long sequences of functions.
func TestRandom(t *testing.T) {
	r := rand.New(rand.NewSource(1))
	for range 60 {
		s := pagestore.New()
		j := open(t, s)
		var held, committed []string
		for i := range 50 {
			switch r.Intn(10) {
			case 0:
				s.FailAfter(r.Intn(20) - 1)
			case 1:
				s.Crash(r.Intn(10) - 1)
				held = slices.Clone(committed)
				j = open(t, s, held...)
			case 2, 3:
				if errno := j.Commit(); errno == api.OK {
					committed = slices.Clone(held)
				} else if errno != api.ErrFailed || !s.Failed() {
					t.Fatal(errno)
				}
			default:
				n := []int{0, 1, 1, 1, 2, 100, size - 1, size, size + 1, 3*size - r.Intn(size)}[r.Intn(10)]
				if index, errno := j.Append(text(i, n)); errno == api.OK {
					held = append(held, text(i, n))
					if index != len(held)-1 {
						t.Fatal(index, len(held))
					}
				} else if index != 0 || errno != api.ErrFailed || !s.Failed() {
					t.Fatal(index, errno)
				}
			}
			expect(t, j, len(committed), held...)
			if want, ok := stringsOf(s.Root(), pagesIn(s)); !ok || !slices.Equal(want, committed) {
				t.Fatal(ok, len(want), len(committed))
			}
			if s.Failed() {
				reject(t, s, api.ErrFailed)
			} else {
				open(t, s, committed...)
			}
		}
	}
}

// P1

// TestHugeArguments has as many pages as a store holds, and a string that is much too long.
func TestHugeArguments(t *testing.T) {
	s := pagestore.New()
	j := open(t, s)
	add(t, j, strings.Repeat("x", 1<<28), 0, api.ErrArg)
	long := strings.Repeat("x", longest)
	var texts []string
	for i := range maxPages / 16 {
		add(t, j, long, i, api.OK)
		texts = append(texts, long)
	}
	add(t, j, "x", 0, api.ErrFull)
	commit(t, j, api.OK)
	expect(t, j, len(texts), texts...)
	open(t, s, texts...)
	var pages []string
	for i := range maxPages {
		pages = append(pages, fmt.Sprintf("%d 72343c16199ab697 .\na", i-1))
	}
	pages[0] = "- 72343c16199ab697 .\na"
	reject(t, storeOf(t, maxPages-1, pages...), api.ErrBroken)
	reject(t, storeOf(t, maxPages-1, slices.Repeat([]string{"4095 72343c16199ab697 .\na"}, maxPages)...), api.ErrBroken)
}
