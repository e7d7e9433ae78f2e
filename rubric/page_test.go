package rubric

import (
	"strconv"
	"strings"
	"testing"

	"rubric/api"
)

func mustPage(t *testing.T, text string) string {
	t.Helper()
	page, e := Page(text)
	if e != api.OK {
		t.Fatalf("P4: Page(%q): error %d", text, e)
	}
	return page
}

func TestPage(t *testing.T) {
	for _, c := range []struct{ text, want string }{
		{"", ""},
		{" \n\n", ""},
		{"a *b*\n`c`  \nd", "<p>a <em>b</em>\n<code>c</code><br>\nd</p>\n"},
		{"# a *b*", "<h1>a <em>b</em></h1>\n"},
		{"- [a](b)\n- c\n\n  d", "<ul>\n<li>\n<p><a href=\"b\">a</a></p>\n</li>\n<li>\n<p>c</p>\n<p>d</p>\n</li>\n</ul>\n"},
		{"12) a\n    ~~~ b c\n    d", "<ol start=\"12\">\n<li>\na\n<pre><code class=\"b\">d\n</code></pre>\n</li>\n</ol>\n"},
		{"> ![a *b*](c)\n\n---", "<quote>\n<p><img src=\"c\" alt=\"a b\"></p>\n</quote>\n<hr>\n"},
		{"\xff&\x00", "<p>\xff&amp;\x00</p>\n"},
		{strings.Repeat("&", api.MaxText), "<p>" + strings.Repeat("&amp;", api.MaxText) + "</p>\n"},
		{strings.Repeat(">", api.MaxText), strings.Repeat("<quote>\n", api.MaxText) + strings.Repeat("</quote>\n", api.MaxText)},
	} {
		if got := mustPage(t, c.text); got != c.want {
			t.Errorf("P4: Page(%q):\n%q\nwant\n%q", c.text, got, c.want)
		}
	}
}

func TestPageOfLongText(t *testing.T) {
	for _, text := range []string{strings.Repeat("a", api.MaxText+1), strings.Repeat("\n", api.MaxText+1), strings.Repeat("- a\n", api.MaxText)} {
		if page, e := Page(text); e != api.ErrLong || page != "" {
			t.Errorf("P4: Page of %d bytes: %q, error %d", len(text), page, e)
		}
	}
}

func escaped(text string) string {
	return strings.NewReplacer("&", "&amp;", "<", "&lt;", ">", "&gt;", `"`, "&quot;").Replace(text)
}

// innerOf tells the nodes within the first one of a tree.
func innerOf(tree []api.Node) []api.Node {
	end := 1
	for end < len(tree) && tree[end].Depth > tree[0].Depth {
		end++
	}
	return tree[1:end]
}

// eachOf joins what is told of each node of a tree that is not within another, and of what is within it.
func eachOf(tree []api.Node, tell func(n api.Node, inner []api.Node) string) string {
	var out strings.Builder
	for len(tree) > 0 {
		inner := innerOf(tree)
		out.WriteString(tell(tree[0], inner))
		tree = tree[1+len(inner):]
	}
	return out.String()
}

// plainOf tells the plain text of nodes.
func plainOf(tree []api.Node) string {
	return eachOf(tree, func(n api.Node, inner []api.Node) string {
		if n.Kind == api.Soft || n.Kind == api.Break {
			return " "
		}
		return n.Text + plainOf(inner)
	})
}

// pageOf writes nodes as a page; spacing is that of the list that they stand in, as items or their blocks.
func pageOf(tree []api.Node, spacing string) string {
	return eachOf(tree, func(n api.Node, inner []api.Node) string {
		begin, end := tagsOf(n, spacing)
		switch n.Kind {
		case api.Text, api.Code, api.Span:
			return begin + escaped(n.Text) + end
		case api.Image:
			return begin + escaped(plainOf(inner)) + end
		case api.List:
			return begin + pageOf(inner, n.Text) + end
		case api.Item:
			return begin + pageOf(inner, spacing) + end
		}
		return begin + pageOf(inner, "") + end
	})
}

func tagsOf(n api.Node, spacing string) (begin, end string) {
	switch n.Kind {
	case api.Paragraph:
		if spacing == "tight" {
			return "", "\n"
		}
		return "<p>", "</p>\n"
	case api.Heading:
		return "<h" + strconv.Itoa(n.N) + ">", "</h" + strconv.Itoa(n.N) + ">\n"
	case api.Code:
		class := ""
		if n.Info != "" {
			class = ` class="` + escaped(strings.SplitN(n.Info, " ", 2)[0]) + `"`
		}
		return "<pre><code" + class + ">", "</code></pre>\n"
	case api.Rule:
		return "<hr>\n", ""
	case api.Quote:
		return "<quote>\n", "</quote>\n"
	case api.List:
		switch n.N {
		case -1:
			return "<ul>\n", "</ul>\n"
		case 1:
			return "<ol>\n", "</ol>\n"
		}
		return `<ol start="` + strconv.Itoa(n.N) + `">` + "\n", "</ol>\n"
	case api.Item:
		return "<li>\n", "</li>\n"
	case api.Soft:
		return "\n", ""
	case api.Break:
		return "<br>\n", ""
	case api.Span:
		return "<code>", "</code>"
	case api.Link:
		return `<a href="` + escaped(n.Info) + `">`, "</a>"
	case api.Image:
		return `<img src="` + escaped(n.Info) + `" alt="`, `">`
	case api.Emph:
		return "<em>", "</em>"
	case api.Strong:
		return "<strong>", "</strong>"
	}
	return "", ""
}

// TestPageOfTree: a page is what its tree says, at texts of any bytes.
func TestPageOfTree(t *testing.T) {
	for _, text := range madeTexts() {
		want := pageOf(mustTree(t, text), "")
		if got := mustPage(t, text); got != want {
			t.Errorf("P4: Page(%q):\n%q\nits tree says\n%q", text, got, want)
		}
	}
}

// TestPageOfQuote: the page of a quote is that of what is quoted, between its tags.
func TestPageOfQuote(t *testing.T) {
	for _, text := range madeTexts() {
		quoted := "> " + strings.Join(linesOf(text), "\n> ")
		if len(quoted) > api.MaxText {
			continue
		}
		want := "<quote>\n" + mustPage(t, text) + "</quote>\n"
		if got := mustPage(t, quoted); got != want {
			t.Errorf("P4: Page(%q):\n%q\nwant\n%q", quoted, got, want)
		}
	}
}

// withoutTags takes the tags out of a page, and tells whether each of them is closed where it must be.
func withoutTags(page string) (string, bool) {
	var out strings.Builder
	var open []string
	for {
		ahead, tag, found := strings.Cut(page, "<")
		out.WriteString(ahead)
		if !found {
			return out.String(), len(open) == 0
		}
		tag, page, found = strings.Cut(tag, ">")
		name, _, _ := strings.Cut(tag, " ")
		switch {
		case !found:
			return "", false
		case name == "br" || name == "hr" || name == "img":
		case !strings.HasPrefix(name, "/"):
			open = append(open, name)
		case len(open) == 0 || open[len(open)-1] != name[1:]:
			return "", false
		default:
			open = open[:len(open)-1]
		}
	}
}

// TestPageKeepsTextsApart: whatever a text has in it, it makes no tags of a page but those of its blocks and parts.
func TestPageKeepsTextsApart(t *testing.T) {
	unescape := strings.NewReplacer("&amp;", "", "&lt;", "", "&gt;", "", "&quot;", "")
	for _, text := range madeTexts() {
		page := mustPage(t, text)
		rest, ok := withoutTags(page)
		if !ok || strings.ContainsAny(unescape.Replace(rest), "&<>\"") {
			t.Errorf("P4: Page(%q) is not well made:\n%q", text, page)
		}
	}
}
