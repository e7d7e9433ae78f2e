package rubric

import (
	"math"
	"math/rand/v2"
	"slices"
	"strings"
	"testing"
	"unsafe"

	"rubric/api"
)

func mustSheet(t *testing.T, text string) *Sheet {
	t.Helper()
	s, e := NewSheet(text)
	if s == nil || e != api.OK {
		t.Fatalf("P6: NewSheet(%q): a sheet: %v, error %d", text, s != nil, e)
	}
	return s
}

// checkSheet holds what a sheet tells against what is told of a text anew.
func checkSheet(t *testing.T, s *Sheet, text string) {
	t.Helper()
	page, titles := mustPage(t, text), mustTitles(t, text)
	for range 2 {
		if got := s.Text(); got != text {
			t.Fatalf("P6: Text():\n%q\nwant\n%q", got, text)
		}
		if got := s.Page(); got != page {
			t.Fatalf("P7: Page() of the sheet of %q:\n%q\nanew\n%q", text, got, page)
		}
		if got := s.Titles(); !slices.Equal(got, titles) {
			t.Fatalf("P7: Titles() of the sheet of %q:\n%v\nanew\n%v", text, got, titles)
		}
	}
}

func TestNewSheet(t *testing.T) {
	for _, text := range append(madeTexts(), "", "\n", strings.Repeat("# a\n", api.MaxText/4)) {
		checkSheet(t, mustSheet(t, text), text)
	}
}

func TestSheetOfLongText(t *testing.T) {
	for _, text := range []string{strings.Repeat("a", api.MaxText+1), strings.Repeat("\n", api.MaxText+1), strings.Repeat("# a\n", api.MaxText)} {
		if s, e := NewSheet(text); s != nil || e != api.ErrLong {
			t.Errorf("P6: NewSheet of %d bytes: a sheet: %v, error %d", len(text), s != nil, e)
		}
	}
}

func TestEdit(t *testing.T) {
	for _, c := range []struct {
		text       string
		at, remove int
		insert     string
		want       string
	}{
		{"", 0, 0, "", ""}, {"", 0, 0, "a", "a"},
		{"abc", 0, 0, "", "abc"}, {"abc", 3, 0, "", "abc"},
		{"abc", 0, 0, "de", "deabc"}, {"abc", 1, 0, "de", "adebc"}, {"abc", 3, 0, "de", "abcde"},
		{"abc", 0, 1, "", "bc"}, {"abc", 1, 1, "", "ac"}, {"abc", 2, 1, "", "ab"},
		{"abc", 0, 3, "", ""}, {"abc", 1, 2, "", "a"}, {"abc", 0, 2, "", "c"},
		{"abc", 0, 3, "de", "de"}, {"abc", 1, 1, "de", "adec"}, {"abc", 1, 1, "b", "abc"},
		{"é", 1, 0, "\n", "\xc3\n\xa9"}, {"\x00\xff", 1, 1, "\xfe\x00", "\x00\xfe\x00"},
	} {
		s := mustSheet(t, c.text)
		if e := s.Edit(c.at, c.remove, c.insert); e != api.OK {
			t.Errorf("P6: Edit(%d, %d, %q) of %q: error %d", c.at, c.remove, c.insert, c.text, e)
		}
		checkSheet(t, s, c.want)
	}
}

func TestEditToTheLimit(t *testing.T) {
	const max = api.MaxText
	line := "# a\n"
	whole := strings.Repeat(line, max/len(line))
	for _, c := range []struct {
		text       string
		at, remove int
		insert     string
		want       api.Errno
	}{
		{"", 0, 0, whole, api.OK}, {"", 0, 0, whole + "#", api.ErrLong},
		{whole, 0, 0, "", api.OK}, {whole, max, 0, "", api.OK}, {whole, 0, 0, "a", api.ErrLong}, {whole, max, 0, "a", api.ErrLong},
		{whole, 4, 1, "a", api.OK}, {whole, 4, 1, "ab", api.ErrLong}, {whole, 4, 1, "", api.OK},
		{whole, 0, max, whole, api.OK}, {whole, 0, max, whole + "a", api.ErrLong}, {whole, 0, max - 1, whole, api.ErrLong},
		{whole[1:], 7, 0, "a", api.OK}, {whole[1:], 7, 0, "ab", api.ErrLong},
		{"a", 1, 0, strings.Repeat("a", 10*max), api.ErrLong}, {"a", 0, 1, strings.Repeat("a", 10*max), api.ErrLong},
	} {
		s, want := mustSheet(t, c.text), c.text
		if c.want == api.OK {
			want = c.text[:c.at] + c.insert + c.text[c.at+c.remove:]
		}
		if e := s.Edit(c.at, c.remove, c.insert); e != c.want {
			t.Errorf("P6: Edit(%d, %d, %d bytes) of %d bytes: error %d, want %d", c.at, c.remove, len(c.insert), len(c.text), e, c.want)
		}
		checkSheet(t, s, want)
	}
}

func TestEditAtNoPlace(t *testing.T) {
	text := "# a\n\n- b\n"
	n := len(text)
	long := strings.Repeat("a", api.MaxText+1)
	for _, c := range []struct{ at, remove int }{
		{-1, 0}, {0, -1}, {-1, -1}, {-1, 1}, {1, -1}, {n, -1}, {-n, n}, {-n, 2 * n},
		{n + 1, 0}, {n + 1, -1}, {0, n + 1}, {1, n}, {n, 1}, {n - 1, 2}, {api.MaxText, 0}, {0, api.MaxText},
		{math.MaxInt, 0}, {0, math.MaxInt}, {math.MaxInt, 1}, {1, math.MaxInt}, {math.MaxInt, math.MaxInt},
		{math.MaxInt/2 + 1, math.MaxInt/2 + 1}, {math.MaxInt - n, n}, {n, math.MaxInt - n + 1}, {n, math.MaxInt},
		{math.MinInt, 0}, {0, math.MinInt}, {math.MinInt, math.MinInt}, {math.MinInt, math.MaxInt}, {math.MaxInt, math.MinInt},
	} {
		s := mustSheet(t, text)
		// That no such place is there is told ahead of how long the text would be.
		for _, insert := range []string{"", "a", long} {
			if e := s.Edit(c.at, c.remove, insert); e != api.ErrPlace {
				t.Errorf("P6: Edit(%d, %d, %d bytes) of %d bytes: error %d", c.at, c.remove, len(insert), n, e)
			}
			checkSheet(t, s, text)
		}
	}
}

// edited tells what a text is behind an edit, and the error.
func edited(text string, at, remove int, insert string) (string, api.Errno) {
	if at < 0 || remove < 0 || uint(at)+uint(remove) > uint(len(text)) {
		return text, api.ErrPlace
	}
	whole := text[:at] + insert + text[at+remove:]
	if len(whole) > api.MaxText {
		return text, api.ErrLong
	}
	return whole, api.OK
}

// change is an edit that makes another thing of what a text has first of its kind, and the page that the text has then.
type change struct{ old, with, page string }

func checkChanges(t *testing.T, text string, list []change) {
	t.Helper()
	s := mustSheet(t, text)
	for _, c := range list {
		at := strings.Index(text, c.old)
		if e := s.Edit(at, len(c.old), c.with); e != api.OK {
			t.Fatalf("P6: Edit(%d, %d, %q) of %q: error %d", at, len(c.old), c.with, text, e)
		}
		text = strings.Replace(text, c.old, c.with, 1)
		if got := s.Page(); got != c.page {
			t.Errorf("P6: Page() of %q:\n%q\nwant\n%q", s.Text(), got, c.page)
		}
		checkSheet(t, s, text)
	}
}

func TestEditParagraphs(t *testing.T) {
	checkChanges(t, "a\n\nb", []change{
		{"\n\n", "\n", "<p>a\nb</p>\n"},
		{"\n", "\n  \n", "<p>a</p>\n<p>b</p>\n"},
		{"b", "    b", "<p>a</p>\n<pre><code>b\n</code></pre>\n"},
		{"\n  \n", "\n", "<p>a\nb</p>\n"},
		{"a", "# a", "<h1>a</h1>\n<pre><code>b\n</code></pre>\n"},
		{"    ", "*", "<h1>a</h1>\n<p>*b</p>\n"},
		{"b", "b*\n\n# a\n", "<h1>a</h1>\n<p><em>b</em></p>\n<h1>a</h1>\n"},
		{"# a\n", "", "<p><em>b</em></p>\n<h1>a</h1>\n"},
		{"*b*\n\n# a\n", "", ""},
	})
}

func TestEditSameBlocks(t *testing.T) {
	checkChanges(t, "a\n\na\n\na", []change{
		{"a\n\n", "", "<p>a</p>\n<p>a</p>\n"},
		{"", "a\n\n***\na\n\n", "<p>a</p>\n<hr>\n<p>a</p>\n<p>a</p>\n<p>a</p>\n"},
		{"***\n", "", "<p>a</p>\n<p>a</p>\n<p>a</p>\n<p>a</p>\n"},
		{"a\n\na\n\na\n\na", "b\n\na", "<p>b</p>\n<p>a</p>\n"},
		{"b\n\na", "a\n\nb\n\nc", "<p>a</p>\n<p>b</p>\n<p>c</p>\n"},
		{"a\n\nb\n\nc", "c\n\na\n\nb\n\nb", "<p>c</p>\n<p>a</p>\n<p>b</p>\n<p>b</p>\n"},
	})
}

func TestEditUnderlines(t *testing.T) {
	checkChanges(t, "a\n\n---", []change{
		{"\n\n", "\n", "<h2>a</h2>\n"},
		{"---", "===", "<h1>a</h1>\n"},
		{"a", "a\nb", "<h1>a\nb</h1>\n"},
		{"===", "", "<p>a\nb</p>\n"},
		{"b", "-\nb", "<h2>a</h2>\n<p>b</p>\n"},
		{"-", "- -", "<p>a</p>\n<ul>\n<li>\n<ul>\n<li>\n</li>\n</ul>\n</li>\n</ul>\n<p>b</p>\n"},
		{"- -", "- - -", "<p>a</p>\n<hr>\n<p>b</p>\n"},
	})
}

func TestEditFences(t *testing.T) {
	checkChanges(t, "a\n\n- b\n\n\n# c", []change{
		{"", "~~~\n", "<pre><code>a\n\n- b\n\n\n# c\n</code></pre>\n"},
		{"- b", "~~~\n- b", "<pre><code>a\n\n</code></pre>\n<ul>\n<li>\nb\n</li>\n</ul>\n<h1>c</h1>\n"},
		{"~~~", "~~~~ d", "<pre><code class=\"d\">a\n\n~~~\n- b\n\n\n# c\n</code></pre>\n"},
		{"a\n\n~~~", "a\n\n~~~~~", "<pre><code class=\"d\">a\n\n</code></pre>\n<ul>\n<li>\nb\n</li>\n</ul>\n<h1>c</h1>\n"},
		{"~~~~ d", "   ```", "<pre><code>a\n\n~~~~~\n- b\n\n\n# c\n</code></pre>\n"},
		{"   ```", "", "<p>a</p>\n<pre><code>- b\n\n\n# c\n</code></pre>\n"},
		{"~~~~~", "", "<p>a</p>\n<ul>\n<li>\nb\n</li>\n</ul>\n<h1>c</h1>\n"},
	})
	// What is behind the last blank line of code that is open to the end belongs to it.
	checkChanges(t, "~~~", []change{
		{"~~~", "~~~\n", "<pre><code></code></pre>\n"},
		{"\n", "\n\n", "<pre><code>\n</code></pre>\n"},
		{"\n\n", "\n\n  ", "<pre><code>\n  \n</code></pre>\n"},
		{"~~~", "", ""},
	})
}

func TestEditLists(t *testing.T) {
	const tight = "<ul>\n<li>\na\n</li>\n<li>\nb\n</li>\n</ul>\n"
	const loose = "<ul>\n<li>\n<p>a</p>\n</li>\n<li>\n<p>b</p>\n</li>\n</ul>\n"
	checkChanges(t, "- a\n- b", []change{
		{"\n", "\n\n", loose},
		{"\n\n", "\n", tight},
		{"b", "b\n\n\n", tight},
		{"b\n\n\n", "b\n\n\n+ c", tight + "<ul>\n<li>\nc\n</li>\n</ul>\n"},
		{"b\n\n\n+ c", "b\n\n\n  c", "<ul>\n<li>\n<p>a</p>\n</li>\n<li>\n<p>b</p>\n<p>c</p>\n</li>\n</ul>\n"},
		{"\n\n\n  c", "\n  c", "<ul>\n<li>\na\n</li>\n<li>\nb\nc\n</li>\n</ul>\n"},
		{"\n  c", "\nc", tight + "<p>c</p>\n"},
		{"\nc", "", tight},
		{"- b", "***", "<ul>\n<li>\na\n</li>\n</ul>\n<hr>\n"},
		{"- a", "7) a", "<ol start=\"7\">\n<li>\na\n</li>\n</ol>\n<hr>\n"},
		{"***", "7) b", "<ol start=\"7\">\n<li>\na\n</li>\n<li>\nb\n</li>\n</ol>\n"},
		{"7", "1", "<ol>\n<li>\na\n</li>\n<li>\nb\n</li>\n</ol>\n"},
		{"7)", "7.", "<ol>\n<li>\na\n</li>\n</ol>\n<ol start=\"7\">\n<li>\nb\n</li>\n</ol>\n"},
		{"1) ", "", "<p>a\n7. b</p>\n"},
		{"7", "1", "<p>a</p>\n<ol>\n<li>\nb\n</li>\n</ol>\n"},
	})
}

func TestEditEmptyItems(t *testing.T) {
	checkChanges(t, "-\n  a", []change{
		{"  a", "\n  a", "<ul>\n<li>\n</li>\n</ul>\n<p>a</p>\n"},
		{"  a", "- a", "<ul>\n<li>\n</li>\n<li>\n<p>a</p>\n</li>\n</ul>\n"},
		{"\n\n", "\n", "<ul>\n<li>\n</li>\n<li>\na\n</li>\n</ul>\n"},
		{"-\n-", "- \n ", "<ul>\n<li>\na\n</li>\n</ul>\n"},
		{"- \n", "a\n-\n", "<h2>a</h2>\n<p>a</p>\n"},
		{"a\n", "", "<ul>\n<li>\na\n</li>\n</ul>\n"},
		{"a", "", "<ul>\n<li>\n</li>\n</ul>\n"},
	})
}

func TestEditQuotes(t *testing.T) {
	checkChanges(t, "> a\n> b", []change{
		{"\n> ", "\n", "<quote>\n<p>a</p>\n</quote>\n<p>b</p>\n"},
		{"b", ">b", "<quote>\n<p>a\nb</p>\n</quote>\n"},
		{"\n", "\n\n", "<quote>\n<p>a</p>\n</quote>\n<quote>\n<p>b</p>\n</quote>\n"},
		{"\n\n", "\n>\n", "<quote>\n<p>a</p>\n<p>b</p>\n</quote>\n"},
		{">\n>b", "> ---\n> # b", "<quote>\n<h2>a</h2>\n<h1>b</h1>\n</quote>\n"},
		{"> a", "~~~", "<pre><code>&gt; ---\n&gt; # b\n</code></pre>\n"},
		{"~~~\n", "", "<quote>\n<hr>\n<h1>b</h1>\n</quote>\n"},
	})
}

// TestEditTitles: the headings of blocks that an edit moves are told where they are then.
func TestEditTitles(t *testing.T) {
	s := mustSheet(t, "# a\n\n> # b\n\n- c\n  -\n\nd")
	want := func(lines ...int) {
		t.Helper()
		titles := []api.Title{{Level: 1, Text: "a"}, {Level: 1, Text: "b"}, {Level: 2, Text: "c"}}
		for i := range titles {
			titles[i].Line = lines[i]
		}
		if got := s.Titles(); !slices.Equal(got, titles) {
			t.Errorf("P6: Titles() of %q:\n%v\nwant\n%v", s.Text(), got, titles)
		}
	}
	want(0, 2, 4)
	s.Edit(0, 0, "\n\n")
	want(2, 4, 6)
	s.Edit(6, 0, "~~~\n# b\n~~~\n")
	want(2, 7, 9)
	s.Edit(0, 2, "")
	want(0, 5, 7)
	s.Edit(len(s.Text()), 0, "\n# ")
	if got := s.Titles(); len(got) != 4 || got[3] != (api.Title{Level: 1, Line: 11}) {
		t.Errorf("P6: Titles() of %q: %v", s.Text(), got)
	}
}

// anyEdit makes up an edit of a text, most of them at a place that is there.
func anyEdit(source *rand.Rand, text string, inserts []string) (at, remove int, insert string) {
	at = source.IntN(len(text)+3) - 1
	remove = source.IntN(6) - 1
	switch source.IntN(12) {
	case 0:
		remove = source.IntN(len(text) + 2)
	case 1:
		at = []int{math.MinInt, math.MaxInt, len(text)}[source.IntN(3)]
	case 2:
		remove = []int{math.MinInt, math.MaxInt, len(text) - at}[source.IntN(3)]
	}
	switch source.IntN(12) {
	case 0:
		return at, remove, ""
	case 1:
		return at, remove, inserts[source.IntN(len(inserts))]
	case 2:
		return at, remove, string([]byte{byte(source.UintN(256))})
	}
	return at, remove, pieces[source.IntN(len(pieces))]
}

// checkAnyEdit edits a sheet in some way, and tells its text then.
func checkAnyEdit(t *testing.T, source *rand.Rand, s *Sheet, text string, inserts []string) string {
	t.Helper()
	at, remove, insert := anyEdit(source, text, inserts)
	whole, want := edited(text, at, remove, insert)
	if e := s.Edit(at, remove, insert); e != want {
		t.Fatalf("P6: Edit(%d, %d, %q) of %q: error %d, want %d", at, remove, insert, text, e, want)
	}
	checkSheet(t, s, whole)
	return whole
}

// TestEditAnyText: behind each edit a sheet tells what is told of its text anew, at texts of any bytes.
func TestEditAnyText(t *testing.T) {
	source := rand.New(rand.NewPCG(3, 4))
	texts := madeTexts()
	for range 500 {
		text := texts[source.IntN(len(texts))]
		s := mustSheet(t, text)
		for range 20 {
			text = checkAnyEdit(t, source, s, text, texts)
		}
	}
}

// TestEditByteByByte: a text can be put in, and taken out, a byte at a time, from either end.
func TestEditByteByByte(t *testing.T) {
	text := "# a\n\n1. b\n\n   > c\n   > ===\n2. ~~~ d\n   e\n\n   ~~~\n\n\n    f\n\n[g *h*](i)\n-\n"
	s := mustSheet(t, "")
	for i := range len(text) {
		s.Edit(i, 0, text[i:i+1])
		checkSheet(t, s, text[:i+1])
	}
	for i := range len(text) {
		s.Edit(0, 1, "")
		checkSheet(t, s, text[i+1:])
	}
	for i := range len(text) {
		s.Edit(0, 0, text[len(text)-1-i:len(text)-i])
		checkSheet(t, s, text[len(text)-1-i:])
	}
	for i := range len(text) {
		s.Edit(len(text)-1-i, 1, "")
		checkSheet(t, s, text[:len(text)-1-i])
	}
}

// TestP7SheetQuoted: with the mark of a quote laid ahead of each line, a sheet tells a quote of what it was.
func TestP7SheetQuoted(t *testing.T) {
	for _, text := range madeTexts()[:2000] {
		text = strings.TrimSuffix(text, "\n")
		lines := linesOf(text)
		if len(text)+2*len(lines) > api.MaxText {
			continue
		}
		s := mustSheet(t, text)
		page, titles := s.Page(), s.Titles()
		at := 0
		for _, line := range lines {
			s.Edit(at, 0, "> ")
			at += len("> ") + len(line) + len("\n")
		}
		if want := "<quote>\n" + page + "</quote>\n"; s.Page() != want || !slices.Equal(s.Titles(), titles) {
			t.Errorf("P7: of %q, now %q, the sheet tells\n%q, %v\nwant\n%q, %v", text, s.Text(), s.Page(), s.Titles(), want, titles)
		}
	}
}

// TestP7SheetFenced: what is laid between fences is told as it is, and as it was when they are taken out.
func TestP7SheetFenced(t *testing.T) {
	width := strings.Repeat("`", 100)
	for _, text := range madeTexts()[:2000] {
		text = strings.TrimSuffix(text, "\n") + "\n"
		if len(text)+2*len(width)+1 > api.MaxText || strings.Contains(text, width) {
			continue
		}
		s := mustSheet(t, text)
		s.Edit(len(text), 0, width)
		s.Edit(0, 0, width+"\n")
		if want := "<pre><code>" + escaped(text) + "</code></pre>\n"; s.Page() != want || len(s.Titles()) > 0 {
			t.Errorf("P7: of %q the sheet tells\n%q, %v\nwant\n%q", s.Text(), s.Page(), s.Titles(), want)
		}
		s.Edit(len(width)+1+len(text), len(width), "")
		s.Edit(0, len(width)+1, "")
		checkSheet(t, s, text)
	}
}

func TestP2SheetsApart(t *testing.T) {
	source := rand.New(rand.NewPCG(5, 6))
	texts := []string{"", "", "# a\n\nb\n\n- c", "# a\n\nb\n\n- c", "b\n\n# a\n\n# a"}
	sheets := make([]*Sheet, len(texts))
	for i, text := range texts {
		sheets[i] = mustSheet(t, text)
	}
	for range 500 {
		i := source.IntN(len(sheets))
		texts[i] = checkAnyEdit(t, source, sheets[i], texts[i], texts)
		for j := range sheets {
			checkSheet(t, sheets[j], texts[j])
		}
	}
}

// overwrite makes another thing of all that a list has room for.
func overwrite(list []api.Title) {
	list = list[:cap(list)]
	for i := range list {
		list[i] = api.Title{Level: 9, Text: "other", Line: -1}
	}
}

func TestP2SheetTitlesOverwritten(t *testing.T) {
	text := "# a\n\n> # b\n> c\n> -\n\nd\n\n# a\n\n- # e\n"
	s, other := mustSheet(t, text), mustSheet(t, text)
	first := s.Titles()
	overwrite(s.Titles())
	if want := mustTitles(t, text); !slices.Equal(first, want) {
		t.Errorf("P2: a list that was told is now %v, want %v", first, want)
	}
	overwrite(first)
	checkSheet(t, s, text)
	checkSheet(t, other, text)
	for _, at := range []int{0, 2, 20, len(text)} {
		s.Edit(at, 0, "x\n\n")
		text = text[:at] + "x\n\n" + text[at:]
		overwrite(s.Titles())
		checkSheet(t, s, text)
	}
}

// TestP2SheetAsksChangeNothing: what a sheet tells of its text does not hang on what it was asked ahead of that.
func TestP2SheetAsksChangeNothing(t *testing.T) {
	asked, silent := mustSheet(t, "# a\n\n- b"), mustSheet(t, "# a\n\n- b")
	for _, insert := range []string{"- ", "c\n\n", "~~~\n", "> ", "\n", "    "} {
		asked.Text()
		asked.Page()
		asked.Titles()
		asked.Edit(-1, 0, insert)
		asked.Edit(4, 0, insert)
		silent.Edit(4, 0, insert)
	}
	checkSheet(t, asked, silent.Text())
	checkSheet(t, silent, asked.Text())
}

// lent tells a text in memory that its owner goes on to write into.
func lent(memory []byte) string {
	return unsafe.String(unsafe.SliceData(memory), len(memory))
}

// TestP2ArgumentsNotKept: what was told of a text, and what a sheet has of it, is the same when the memory of the argument is not.
func TestP2ArgumentsNotKept(t *testing.T) {
	const text = "# a *b*\n\n- [c](d)\n\n~~~ e\nf\n"
	memory := []byte(text)
	told := answersOf(t, lent(memory))
	made := mustSheet(t, lent(memory))
	replaced, filled := mustSheet(t, "g"), mustSheet(t, "")
	replaced.Edit(0, 1, lent(memory))
	filled.Edit(0, 0, lent(memory))
	titles := made.Titles()
	for i := range memory {
		memory[i] = '#'
	}
	if !told.equal(answersOf(t, text)) || !slices.Equal(titles, told.titles) {
		t.Errorf("P2: what was told of %q is now %v, %v", text, told, titles)
	}
	for _, s := range []*Sheet{made, replaced, filled} {
		checkSheet(t, s, text)
		s.Edit(0, 0, "h\n\n")
		checkSheet(t, s, "h\n\n"+text)
	}
}
