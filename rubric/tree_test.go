package rubric

import (
	"slices"
	"strings"
	"testing"

	"rubric/api"
)

func mustTree(t *testing.T, text string) []api.Node {
	t.Helper()
	tree, e := Tree(text)
	if e != api.OK {
		t.Fatalf("P3: Tree(%q): error %d", text, e)
	}
	return tree
}

// paragraph tells the nodes of a paragraph of one text.
func paragraph(depth int, text string) []api.Node {
	return []api.Node{
		{Depth: depth, Kind: api.Paragraph},
		{Depth: depth + 1, Kind: api.Text, Text: text},
	}
}

func heading(depth, level int, text string) []api.Node {
	return []api.Node{
		{Depth: depth, Kind: api.Heading, N: level},
		{Depth: depth + 1, Kind: api.Text, Text: text},
	}
}

func list(depth, number int, spacing string) []api.Node {
	return []api.Node{{Depth: depth, Kind: api.List, N: number, Text: spacing}}
}

func one(depth int, kind api.Kind) []api.Node {
	return []api.Node{{Depth: depth, Kind: kind}}
}

func code(depth int, info, text string) []api.Node {
	return []api.Node{{Depth: depth, Kind: api.Code, Info: info, Text: text}}
}

func TestTree(t *testing.T) {
	item, quote, rule := api.Item, api.Quote, api.Rule
	for _, c := range []struct {
		text string
		want []api.Node
	}{
		{"", nil},
		{" \n\n", nil},
		{"a", paragraph(0, "a")},
		{"### a", heading(0, 3, "a")},
		{"#", []api.Node{{Kind: api.Heading, N: 1}}},
		{"a\n---", heading(0, 2, "a")},
		{"***", one(0, rule)},
		{"    a", code(0, "", "a\n")},
		{"~~~ b c\na", code(0, "b c", "a\n")},
		{">", one(0, quote)},
		{"> > a", slices.Concat(one(0, quote), one(1, quote), paragraph(2, "a"))},
		{"> a\nb", slices.Concat(one(0, quote), paragraph(1, "a"), paragraph(0, "b"))},
		{"-", slices.Concat(list(0, -1, "tight"), one(1, item))},
		{"- a\n- b\n\n  c", slices.Concat(list(0, -1, "loose"), one(1, item), paragraph(2, "a"), one(1, item), paragraph(2, "b"), paragraph(2, "c"))},
		{"1. a\n2) b", slices.Concat(list(0, 1, "tight"), one(1, item), paragraph(2, "a"), list(0, 2, "tight"), one(1, item), paragraph(2, "b"))},
		{"0. # a\n   - ~~~ b\n     c\n***", slices.Concat(list(0, 0, "tight"), one(1, item), heading(2, 1, "a"), list(2, -1, "tight"), one(3, item), code(4, "b", "c\n"), one(0, rule))},
	} {
		if got := mustTree(t, c.text); !slices.Equal(got, c.want) {
			t.Errorf("P3: the tree of %q:\n%v\nwant\n%v", c.text, got, c.want)
		}
	}
}

// TestTreeWithin has what stands within blocks of each kind that has a content, and of one that has none.
func TestTreeWithin(t *testing.T) {
	text := func(depth int, s string) api.Node { return api.Node{Depth: depth, Kind: api.Text, Text: s} }
	for _, c := range []struct {
		text string
		want []api.Node
	}{
		{"# a *b*", []api.Node{{Kind: api.Heading, N: 1}, text(1, "a "), {Depth: 1, Kind: api.Emph}, text(2, "b")}},
		{"*a\n  b*  \n---", []api.Node{{Kind: api.Heading, N: 2}, {Depth: 1, Kind: api.Emph}, text(2, "a"), {Depth: 2, Kind: api.Soft}, text(2, "b")}},
		{"***a***", []api.Node{{Kind: api.Paragraph}, {Depth: 1, Kind: api.Emph}, {Depth: 2, Kind: api.Strong}, text(3, "a")}},
		{"a  \n`b`", []api.Node{{Kind: api.Paragraph}, text(1, "a"), {Depth: 1, Kind: api.Break}, {Depth: 1, Kind: api.Span, Text: "b"}}},
		{"[a [b](c) d](e)", []api.Node{{Kind: api.Paragraph}, text(1, "[a "), {Depth: 1, Kind: api.Link, Info: "c"}, text(2, "b"), text(1, " d](e)")}},
		{"![a *b*](c)", []api.Node{{Kind: api.Paragraph}, {Depth: 1, Kind: api.Image, Info: "c"}, text(2, "a "), {Depth: 2, Kind: api.Emph}, text(3, "b")}},
		{"<ab:c>", []api.Node{{Kind: api.Paragraph}, {Depth: 1, Kind: api.Link, Info: "ab:c"}, text(2, "ab:c")}},
		{"[](a)", []api.Node{{Kind: api.Paragraph}, {Depth: 1, Kind: api.Link, Info: "a"}}},
		{"> - _a_", []api.Node{{Kind: api.Quote}, {Depth: 1, Kind: api.List, N: -1, Text: "tight"}, {Depth: 2, Kind: api.Item}, {Depth: 3, Kind: api.Paragraph}, {Depth: 4, Kind: api.Emph}, text(5, "a")}},
		{"# a \\#", heading(0, 1, "a #")},
		{"a\\", paragraph(0, "a\\")},
		{"*a\n\nb*", slices.Concat(paragraph(0, "*a"), paragraph(0, "b*"))},
		{"    *a*", code(0, "", "*a*\n")},
		{"~~~ *b*\n\\*a*", code(0, "*b*", "\\*a*\n")},
	} {
		if got := mustTree(t, c.text); !slices.Equal(got, c.want) {
			t.Errorf("P3: the tree of %q:\n%v\nwant\n%v", c.text, got, c.want)
		}
	}
}

func TestTreeNumberInsideParagraph(t *testing.T) {
	count := 0
	for _, n := range mustTree(t, "a\n2. b") {
		if n.Depth == 0 {
			count++
		}
		if n.Kind == api.List {
			t.Errorf("P3: a list begins within a paragraph with the number 2")
		}
	}
	if count != 1 {
		t.Errorf("P3: %d blocks, want one paragraph", count)
	}
}

func TestTreeLimit(t *testing.T) {
	for _, s := range []string{"a", "\n", ">", " ", "`", "\xff"} {
		if _, e := Tree(strings.Repeat(s, api.MaxText)); e != api.OK {
			t.Errorf("P3: %q, as often as is allowed: error %d", s, e)
		}
		tree, e := Tree(strings.Repeat(s, api.MaxText+1))
		if e != api.ErrLong || len(tree) != 0 {
			t.Errorf("P3: %q, once more than is allowed: %d nodes, error %d", s, len(tree), e)
		}
	}
	if tree, e := Tree(strings.Repeat("a\n\n", 100000)); e != api.ErrLong || len(tree) != 0 {
		t.Errorf("P3: a text of 300000 bytes: %d nodes, error %d", len(tree), e)
	}
}

// TestTreeDepth has blocks within blocks as deep as a text is long.
func TestTreeDepth(t *testing.T) {
	for _, c := range []struct {
		unit  string
		depth int // of the paragraph at the bottom, for each unit
	}{{">", 1}, {"> ", 1}, {"- ", 2}, {"+ ", 2}, {"1) ", 2}, {">- ", 3}, {">1.   ", 3}} {
		times := (api.MaxText - 1) / len(c.unit)
		tree := mustTree(t, strings.Repeat(c.unit, times)+"a")
		if len(tree) != times*c.depth+2 {
			t.Errorf("P3: %d times %q: %d nodes", times, c.unit, len(tree))
			continue
		}
		for i, n := range tree {
			if n.Depth != i {
				t.Errorf("P3: %d times %q: node %d is at depth %d", times, c.unit, i, n.Depth)
				break
			}
		}
		if got := tree[len(tree)-2:]; !slices.Equal(got, paragraph(times*c.depth, "a")) {
			t.Errorf("P3: %d times %q ends with %v", times, c.unit, got)
		}
	}
}

// TestTreeStairs has a list one deeper at each line.
func TestTreeStairs(t *testing.T) {
	var text strings.Builder
	steps := 0
	for text.Len()+2*steps+4 <= api.MaxText {
		text.WriteString(strings.Repeat("  ", steps) + "- a\n")
		steps++
	}
	var want []api.Node
	for i := range steps {
		want = slices.Concat(want, list(2*i, -1, "tight"), one(2*i+1, api.Item), paragraph(2*i+2, "a"))
	}
	if got := mustTree(t, text.String()); !slices.Equal(got, want) {
		t.Errorf("P3: %d steps:\n%v", steps, got)
	}
}
