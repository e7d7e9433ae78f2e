package pages

import "testing"

func checkParts(t *testing.T, list []writing) {
	t.Helper()
	for _, c := range list {
		checkWritings(t, []writing{
			{"a" + c.text, "<p>a" + c.want + "</p>\n"},
			{"# a" + c.text, "<h1>a" + c.want + "</h1>\n"},
			{"- a" + c.text, "<ul>\n<li>\na" + c.want + "\n</li>\n</ul>\n"},
		})
	}
}

func TestParts(t *testing.T) {
	checkParts(t, []writing{
		{"", ""}, {"b c", "b c"},
		{"*b*", "<em>b</em>"}, {"**b**", "<strong>b</strong>"}, {" ***b***", " <em><strong>b</strong></em>"},
		{" _b __c__ d_", " <em>b <strong>c</strong> d</em>"},
		{"`b`", "<code>b</code>"}, {"`*b*`", "<code>*b*</code>"}, {"`` ` ``", "<code>`</code>"},
		{"[b](c)", "<a href=\"c\">b</a>"}, {"[](c)", "<a href=\"c\"></a>"}, {"[b]()", "<a href=\"\">b</a>"},
		{"[*b* `c`](d)", "<a href=\"d\"><em>b</em> <code>c</code></a>"},
		{"<ab:c>", "<a href=\"ab:c\">ab:c</a>"}, {"<ab:>", "<a href=\"ab:\">ab:</a>"},
		{"![b](c)", "<img src=\"c\" alt=\"b\">"}, {"![]()", "<img src=\"\" alt=\"\">"},
		{"[![b](c)](d)", "<a href=\"d\"><img src=\"c\" alt=\"b\"></a>"},
		{"*![b](c)*d", "*<img src=\"c\" alt=\"b\">*d"}, {" *![b](c)*", " <em><img src=\"c\" alt=\"b\"></em>"},
	})
}

func TestBreaks(t *testing.T) {
	checkWritings(t, []writing{
		{"a\nb", "<p>a\nb</p>\n"}, {"a \n b", "<p>a\nb</p>\n"},
		{"a  \nb", "<p>a<br>\nb</p>\n"}, {"a\\\nb\\", "<p>a<br>\nb\\</p>\n"},
		{"*a\nb  \nc*", "<p><em>a\nb<br>\nc</em></p>\n"},
		{"`a\nb`", "<p><code>a b</code></p>\n"},
		{"- a\n  b\\\n  c", "<ul>\n<li>\na\nb<br>\nc\n</li>\n</ul>\n"},
	})
}

func TestImages(t *testing.T) {
	checkParts(t, []writing{
		{"![b *c* **d** `e`](f)", "<img src=\"f\" alt=\"b c d e\">"},
		{"![b [c](d) <ef:g>](h)", "<img src=\"h\" alt=\"b c ef:g\">"},
		{"![b ![c ![d](e)](f)](g)", "<img src=\"g\" alt=\"b c d\">"},
		{"![\"b\" \\& <c> `<d>`](e)", "<img src=\"e\" alt=\"&quot;b&quot; &amp; &lt;c&gt; &lt;d&gt;\">"},
	})
	checkWritings(t, []writing{
		{"![a\nb  \nc\\\nd](e)", "<p><img src=\"e\" alt=\"a b c d\"></p>\n"},
	})
}

func TestEscapes(t *testing.T) {
	checkParts(t, []writing{
		{"&<>\"'", "&amp;&lt;&gt;&quot;'"}, {"&amp;&#39;", "&amp;amp;&amp;#39;"},
		{"\\&\\<\\>\\\"\\'", "&amp;&lt;&gt;&quot;'"},
		{"`&<>\"'`", "<code>&amp;&lt;&gt;&quot;'</code>"},
		{"[&](b&\"')", "<a href=\"b&amp;&quot;'\">&amp;</a>"},
		{"<ab:&\"'>", "<a href=\"ab:&amp;&quot;'\">ab:&amp;&quot;'</a>"},
		{"![&](b&\"')", "<img src=\"b&amp;&quot;'\" alt=\"&amp;\">"},
		{"<b>", "&lt;b&gt;"}, {"*<*>", "*&lt;*&gt;"},
		{"\t\r\x00\x7f\x80\xff\xc3\xa9", "\t\r\x00\x7f\x80\xff\xc3\xa9"},
	})
}
