package pages

import (
	"strings"
	"testing"

	"rubric/api"
	"rubric/blocks"
)

type writing struct{ text, want string }

func checkWritings(t *testing.T, list []writing) {
	t.Helper()
	for _, c := range list {
		if got := Write(blocks.Read(c.text)); got != c.want {
			t.Errorf("P4: the page of %q:\n%q\nwant\n%q", c.text, got, c.want)
		}
	}
}

// tags joins the lines of a page: each tag of a list, a quote or an item has its own.
func tags(lines ...string) string {
	return strings.Join(lines, "\n") + "\n"
}

func TestNothing(t *testing.T) {
	checkWritings(t, []writing{{"", ""}, {"\n", ""}, {"  \n\n     ", ""}})
}

func TestParagraphs(t *testing.T) {
	checkWritings(t, []writing{
		{"a", "<p>a</p>\n"},
		{"a\n\nb\n\n\nc", "<p>a</p>\n<p>b</p>\n<p>c</p>\n"},
		{"  a\n b  ", "<p>a\nb</p>\n"},
		{"[](b)", "<p><a href=\"b\"></a></p>\n"},
	})
}

func TestHeadings(t *testing.T) {
	checkWritings(t, []writing{
		{"# a", "<h1>a</h1>\n"}, {"## a", "<h2>a</h2>\n"}, {"### a", "<h3>a</h3>\n"},
		{"#### a", "<h4>a</h4>\n"}, {"##### a", "<h5>a</h5>\n"}, {"###### a", "<h6>a</h6>\n"},
		{"####### a", "<p>####### a</p>\n"},
		{"##", "<h2></h2>\n"},
		{"a\nb\n===", "<h1>a\nb</h1>\n"}, {"*a*\n-", "<h2><em>a</em></h2>\n"},
		{"# a\nb\n# c", "<h1>a</h1>\n<p>b</p>\n<h1>c</h1>\n"},
	})
}

func TestCode(t *testing.T) {
	checkWritings(t, []writing{
		{"    a\n\n      b", "<pre><code>a\n\n  b\n</code></pre>\n"},
		{"~~~\n~~~", "<pre><code></code></pre>\n"},
		{"~~~\n*a*\n\\*\n", "<pre><code>*a*\n\\*\n</code></pre>\n"},
		{"~~~   \na", "<pre><code>a\n</code></pre>\n"},
		{"~~~a\n~~~", "<pre><code class=\"a\"></code></pre>\n"},
		{"```  a  b c \nd\n```\ne", "<pre><code class=\"a\">d\n</code></pre>\n<p>e</p>\n"},
		{"``` a\tb c\n```", "<pre><code class=\"a\tb\"></code></pre>\n"},
		{"~~~ &<>\"'` \"\n&<>\"'`\n~~~", "<pre><code class=\"&amp;&lt;&gt;&quot;'`\">&amp;&lt;&gt;&quot;'`\n</code></pre>\n"},
		{"~~~ \xff\x00\n\xff\x00", "<pre><code class=\"\xff\x00\">\xff\x00\n</code></pre>\n"},
	})
}

func TestRules(t *testing.T) {
	checkWritings(t, []writing{
		{"---", "<hr>\n"}, {"* * *\n___\n- - -", "<hr>\n<hr>\n<hr>\n"}, {"a\n***\nb", "<p>a</p>\n<hr>\n<p>b</p>\n"},
	})
}

func TestQuotes(t *testing.T) {
	checkWritings(t, []writing{
		{">", "<quote>\n</quote>\n"},
		{"> a\n\n> b", "<quote>\n<p>a</p>\n</quote>\n<quote>\n<p>b</p>\n</quote>\n"},
		{"> > # a\n> ---\nb", tags("<quote>", "<quote>", "<h1>a</h1>", "</quote>", "<hr>", "</quote>", "<p>b</p>")},
		{"> - a", tags("<quote>", "<ul>", "<li>", "a", "</li>", "</ul>", "</quote>")},
	})
}

func TestKindsOfLists(t *testing.T) {
	for marker, name := range map[string]string{
		"-": "ul", "+": "ul", "*": "ul",
		"1.": "ol", "1)": "ol", "001.": "ol",
		"0.": "ol start=\"0\"", "000)": "ol start=\"0\"", "2.": "ol start=\"2\"", "7)": "ol start=\"7\"",
		"10.": "ol start=\"10\"", "11)": "ol start=\"11\"", "999999.": "ol start=\"999999\"",
	} {
		want := tags("<"+name+">", "<li>", "a", "</li>", "</"+name[:2]+">")
		checkWritings(t, []writing{{marker + " a", want}})
	}
}

func TestSpacingOfLists(t *testing.T) {
	checkWritings(t, []writing{
		{"-", tags("<ul>", "<li>", "</li>", "</ul>")},
		{"- a\n-\n- b\n  c", tags("<ul>", "<li>", "a", "</li>", "<li>", "</li>", "<li>", "b", "c", "</li>", "</ul>")},
		{"- a\n-\n\n- b", tags("<ul>", "<li>", "<p>a</p>", "</li>", "<li>", "</li>", "<li>", "<p>b</p>", "</li>", "</ul>")},
		{"3. a\n\n   b", tags("<ol start=\"3\">", "<li>", "<p>a</p>", "<p>b</p>", "</li>", "</ol>")},
		{"- a\n# b\n- c", tags("<ul>", "<li>", "a", "</li>", "</ul>", "<h1>b</h1>", "<ul>", "<li>", "c", "</li>", "</ul>")},
	})
}

func TestBlocksInItems(t *testing.T) {
	checkWritings(t, []writing{
		// Only a paragraph is written without its mark, and only right within the item.
		{"- a\n  # b\n  c\n  ***\n  ~~~\n  d", tags("<ul>", "<li>", "a", "<h1>b</h1>", "c", "<hr>", "<pre><code>d", "</code></pre>", "</li>", "</ul>")},
		{"- > a", tags("<ul>", "<li>", "<quote>", "<p>a</p>", "</quote>", "</li>", "</ul>")},
		{"- > - a\n  > b", tags("<ul>", "<li>", "<quote>", "<ul>", "<li>", "a", "</li>", "</ul>", "<p>b</p>", "</quote>", "</li>", "</ul>")},
		// How loose a list is says nothing of the one around it, or within it.
		{"- a\n  1. b\n\n  1. c", tags("<ul>", "<li>", "a", "<ol>", "<li>", "<p>b</p>", "</li>", "<li>", "<p>c</p>", "</li>", "</ol>", "</li>", "</ul>")},
		{"- a\n  - b\n\n  c", tags("<ul>", "<li>", "<p>a</p>", "<ul>", "<li>", "b", "</li>", "</ul>", "<p>c</p>", "</li>", "</ul>")},
	})
}

func TestWriteOneByOne(t *testing.T) {
	row := blocks.Read("# a\n\n> b\n\n- c\n- d\n\ne")
	var each strings.Builder
	for i := range row {
		each.WriteString(Write(row[i : i+1]))
	}
	if got := Write(row); got != each.String() {
		t.Errorf("P4: blocks written at once:\n%q\none by one:\n%q", got, each.String())
	}
	if got := Write([]blocks.Block{{Kind: api.Rule}}); got != "<hr>\n" {
		t.Errorf("P4: a rule: %q", got)
	}
}
