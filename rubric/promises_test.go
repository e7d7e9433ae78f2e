package rubric

import (
	"math"
	"math/rand/v2"
	"slices"
	"strings"
	"testing"

	"rubric/api"
)

var pieces = []string{
	" ", "  ", "    ", "\n", "\n", "\n\n", "-", "- ", "* ", "+ ", "1. ", "2) ", "1.", "123456) ", "1234567. ",
	">", "> ", "#", "## ", " #", "```", "~~~", "````", "`", "~", "=", "---", "***", "_", "* * *", "a", "b c",
	"\t", "\r", "\x00", "\xff", "\xe2\x82", "é", "[", "](", "!", "\\", "<a:>",
	"*", "**", "***", "__", "_a", "a_", "``", "](b)", "]", "![", "[c](d)", "<ab:e>", "<ab:", ".", "  \n", "\\\n",
}

// madeTexts tells texts made of pieces that have a meaning, and of any bytes; always the same ones.
func madeTexts() []string {
	source := rand.New(rand.NewPCG(1, 2))
	var out []string
	for i := range 6000 {
		var text strings.Builder
		for range 1 + source.IntN(40) {
			if i%4 == 0 {
				text.WriteByte(byte(source.UintN(256)))
			} else {
				text.WriteString(pieces[source.IntN(len(pieces))])
			}
		}
		out = append(out, text.String())
	}
	for b := range 256 {
		out = append(out, string([]byte{byte(b)}), strings.Repeat(string([]byte{byte(b)}), api.MaxText))
		for _, s := range pieces {
			out = append(out, s+string([]byte{byte(b)}), string([]byte{byte(b)})+s)
		}
	}
	return out
}

func isBlock(k api.Kind) bool { return k >= api.Paragraph && k <= api.List }

// mayHold tells whether a node of one kind may stand right within one of another (0: the text).
func mayHold(outer, inner api.Kind) bool {
	switch outer {
	case 0, api.Quote, api.Item:
		return isBlock(inner)
	case api.List:
		return inner == api.Item
	case api.Code, api.Rule, api.Text, api.Soft, api.Break, api.Span:
		return false
	}
	return inner >= api.Text && inner <= api.Strong
}

// withoutNamed clears what a node of its kind may have, so that only what it must not have is left.
func withoutNamed(n api.Node) api.Node {
	n.Depth = 0
	switch n.Kind {
	case api.Heading:
		n.N = 0
	case api.Code:
		n.Info, n.Text = "", ""
	case api.List:
		n.N, n.Text = 0, ""
	case api.Link, api.Image:
		n.Info = ""
	case api.Text, api.Span:
		n.Text = ""
	}
	return n
}

// besideText tells whether the last node that is no deeper than a depth is a text there.
func besideText(tree []api.Node, depth int) bool {
	for _, n := range slices.Backward(tree) {
		if n.Depth <= depth {
			return n.Depth == depth && n.Kind == api.Text
		}
	}
	return false
}

// isAddress tells whether nodes begin with a link that is its own address: those of < and > may stand within others.
func isAddress(tree []api.Node) bool {
	return len(tree) > 1 && tree[1] == api.Node{Depth: tree[0].Depth + 1, Kind: api.Text, Text: tree[0].Info}
}

func checkShape(t *testing.T, text string, tree []api.Node) {
	t.Helper()
	path := []api.Kind{0}
	for i, n := range tree {
		if n.Depth < 0 || n.Depth >= len(path) || !mayHold(path[n.Depth], n.Kind) {
			t.Errorf("P3: the tree of %q: node %d stands where it may not: %v", text, i, tree)
			return
		}
		path = append(path[:n.Depth+1], n.Kind)
		if withoutNamed(n) != (api.Node{Kind: n.Kind}) {
			t.Errorf("P3: the tree of %q: node %d has what its kind has not: %v", text, i, n)
		}
		switch {
		case n.Kind == api.Heading && (n.N < 1 || n.N > 6),
			n.Kind == api.List && (n.N < -1 || n.N > 999999 || n.Text != "tight" && n.Text != "loose"),
			n.Kind == api.List && (i+1 == len(tree) || tree[i+1].Depth != n.Depth+1),
			n.Kind == api.Text && (n.Text == "" || besideText(tree[:i], n.Depth)),
			n.Kind == api.Link && slices.Contains(path[:n.Depth+1], api.Link) && !isAddress(tree[i:]),
			(n.Kind == api.Emph || n.Kind == api.Strong) && (i+1 == len(tree) || tree[i+1].Depth != n.Depth+1):
			t.Errorf("P3: the tree of %q: node %d: %v", text, i, n)
		}
	}
}

func TestP1AnyBytes(t *testing.T) {
	for _, text := range madeTexts() {
		checkShape(t, text, mustTree(t, text))
		mustPage(t, text)
		mustTitles(t, text)
	}
}

func TestP1SheetCalls(t *testing.T) {
	numbers := []int{math.MinInt, -1, 0, 1, 2, api.MaxText, math.MaxInt}
	for _, text := range []string{"", "a", "# a\n- b", "\xff\x00", strings.Repeat(">", api.MaxText), strings.Repeat("*", api.MaxText)} {
		s := mustSheet(t, text)
		for _, at := range numbers {
			for _, remove := range numbers {
				for _, insert := range []string{"", "a", text, strings.Repeat("\n", 10*api.MaxText)} {
					s.Edit(at, remove, insert)
				}
			}
			s.Page()
			s.Titles()
		}
		if len(s.Text()) > api.MaxText {
			t.Errorf("P6: the text of a sheet has %d bytes", len(s.Text()))
		}
	}
}

func TestP1NothingWithAnError(t *testing.T) {
	long := strings.Repeat("# a\n", api.MaxText)
	if tree, e := Tree(long); e == api.OK || len(tree) != 0 {
		t.Errorf("P1: Tree of a long text: %d nodes, error %d", len(tree), e)
	}
	if page, e := Page(long); e == api.OK || page != "" {
		t.Errorf("P1: Page of a long text: %q, error %d", page, e)
	}
	if titles, e := Titles(long); e == api.OK || len(titles) != 0 {
		t.Errorf("P1: Titles of a long text: %d of them, error %d", len(titles), e)
	}
	if s, e := NewSheet(long); e == api.OK || s != nil {
		t.Errorf("P1: NewSheet of a long text: a sheet: %v, error %d", s != nil, e)
	}
}

// answers is what the calls tell of a text.
type answers struct {
	tree   []api.Node
	page   string
	titles []api.Title
}

func answersOf(t *testing.T, text string) answers {
	t.Helper()
	return answers{tree: mustTree(t, text), page: mustPage(t, text), titles: mustTitles(t, text)}
}

func (a answers) equal(b answers) bool {
	return slices.Equal(a.tree, b.tree) && a.page == b.page && slices.Equal(a.titles, b.titles)
}

func TestP2SameAnswer(t *testing.T) {
	texts := madeTexts()
	first := make([]answers, len(texts))
	for i, text := range texts {
		first[i] = answersOf(t, text)
	}
	for i, text := range slices.Backward(texts) {
		if again := answersOf(t, text); !first[i].equal(again) {
			t.Errorf("P2: of %q another thing is told the second time: %v, %v", text, first[i], again)
		}
	}
}

func TestP2NewMemory(t *testing.T) {
	const text = "- a\n- b\n\n      c\n\n> # d *e* [f](g)\n\nh\n-"
	first := answersOf(t, text)
	want := answers{tree: slices.Clone(first.tree), page: first.page, titles: slices.Clone(first.titles)}
	second := answersOf(t, text)
	clear(first.tree[:cap(first.tree)])
	clear(first.titles[:cap(first.titles)])
	if !second.equal(want) || !answersOf(t, text).equal(want) {
		t.Errorf("P2: what is told changes with what was told ahead of it: %v", second)
	}
}

func linesOf(text string) []string {
	return strings.Split(strings.TrimSuffix(text, "\n"), "\n")
}

func deeper(tree []api.Node, by int) []api.Node {
	out := slices.Clone(tree)
	for i := range out {
		out[i].Depth += by
	}
	return out
}

// TestP7QuoteOfText: what is laid behind quote marks is told as it is, one deeper.
func TestP7QuoteOfText(t *testing.T) {
	for _, text := range madeTexts() {
		quoted := "> " + strings.Join(linesOf(text), "\n> ")
		if len(quoted) > api.MaxText {
			continue
		}
		want := slices.Concat(one(0, api.Quote), deeper(mustTree(t, text), 1))
		if got := mustTree(t, quoted); !slices.Equal(got, want) {
			t.Errorf("P7: the tree of %q:\n%v\nwant\n%v", quoted, got, want)
		}
	}
}

// lineOf makes one line of a text, with an a at both ends, so that it is a paragraph's content as it is.
func lineOf(text string) string {
	return "a" + strings.ReplaceAll(text, "\n", " ") + "a"
}

const marks = "!\"#$%&'()*+,-./:;<=>?@[\\]^_`{|}~"

// TestMarksWithoutMeaning: with a backslash ahead of each of its marks, a text is told as it is.
func TestMarksWithoutMeaning(t *testing.T) {
	for _, text := range madeTexts() {
		line := lineOf(text)
		var escaped strings.Builder
		for _, b := range []byte(line) {
			if strings.IndexByte(marks, b) >= 0 {
				escaped.WriteByte('\\')
			}
			escaped.WriteByte(b)
		}
		if escaped.Len() > api.MaxText {
			continue
		}
		if got := mustTree(t, escaped.String()); !slices.Equal(got, paragraph(0, line)) {
			t.Errorf("P3: the tree of %q:\n%v", escaped.String(), got)
		}
	}
}

// TestTextBetweenGraves: what stands between graves is told as it is.
func TestTextBetweenGraves(t *testing.T) {
	width := strings.Repeat("`", 100)
	for _, text := range madeTexts() {
		line := lineOf(text)
		whole := "b" + width + line + width + "c"
		if len(whole) > api.MaxText || strings.Contains(line, width) {
			continue
		}
		want := []api.Node{
			{Kind: api.Paragraph},
			{Depth: 1, Kind: api.Text, Text: "b"},
			{Depth: 1, Kind: api.Span, Text: line},
			{Depth: 1, Kind: api.Text, Text: "c"},
		}
		if got := mustTree(t, whole); !slices.Equal(got, want) {
			t.Errorf("P3: the tree of %q:\n%v", whole, got)
		}
	}
}

// TestHeadingOfLine: a content has the same within it in a heading and in a paragraph.
func TestHeadingOfLine(t *testing.T) {
	for _, text := range madeTexts() {
		line := lineOf(text)
		if len(line)+2 > api.MaxText {
			continue
		}
		want := mustTree(t, line)
		want[0] = api.Node{Kind: api.Heading, N: 1}
		if got := mustTree(t, "# "+line); !slices.Equal(got, want) {
			t.Errorf("P3: the tree of a heading of %q:\n%v\nwant\n%v", line, got, want)
		}
		if got := mustTree(t, line+"\n="); !slices.Equal(got, want) {
			t.Errorf("P3: the tree of %q, underlined:\n%v\nwant\n%v", line, got, want)
		}
	}
}

// TestItemOfText: what is laid behind a marker, at its margin, is told as it is, two deeper.
func TestItemOfText(t *testing.T) {
	for _, text := range madeTexts() {
		lines := linesOf(text)
		for len(lines) > 0 && strings.Trim(lines[len(lines)-1], " ") == "" {
			lines = lines[:len(lines)-1]
		}
		if len(lines) == 0 || strings.HasPrefix(lines[0], " ") || lines[0] == "" {
			continue
		}
		item := "7) " + strings.Join(lines, "\n   ")
		if len(item) > api.MaxText {
			continue
		}
		got := mustTree(t, item)
		want := slices.Concat(list(0, 7, "tight"), one(1, api.Item), deeper(mustTree(t, strings.Join(lines, "\n")), 2))
		want[0].Text = got[0].Text
		if !slices.Equal(got, want) {
			t.Errorf("P3: the tree of %q:\n%v\nwant\n%v", item, got, want)
		}
	}
}

// TestP7TextBetweenFences: what stands between fences is told as it is.
func TestP7TextBetweenFences(t *testing.T) {
	width := strings.Repeat("~", 100)
	for _, text := range madeTexts() {
		if len(text)+2*len(width)+2 > api.MaxText || strings.Contains(text, width) {
			continue
		}
		body := strings.TrimSuffix(text, "\n") + "\n"
		want := slices.Concat(code(0, "", body), paragraph(0, "a"))
		if got := mustTree(t, width+"\n"+body+width+"\na"); !slices.Equal(got, want) {
			t.Errorf("P7: %q between fences:\n%v\nwant\n%v", text, got, want)
		}
	}
}
