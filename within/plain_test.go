package within

import "testing"

func TestPlain(t *testing.T) {
	for _, c := range []reading{
		{"", ""}, {"a", "a"}, {" a  b", " a  b"},
		{"a *b* __c__ ***d***", "a b c d"},
		{"*a **b _c_** d*", "a b c d"},
		{"`*a*` ``b`c``", "*a* b`c"},
		{"a\nb", "a b"}, {"a \nb", "a b"}, {"a  \nb", "a b"}, {"a     \nb\\\nc", "a b c"},
		{"`a\nb`", "a b"},
		{"[a *b*](c)", "a b"}, {"[](c)", ""}, {"[a](", "[a]("},
		{"<ab:c?d>", "ab:c?d"}, {"<a:c>", "<a:c>"},
		{"![a *b*](c)", "a b"}, {"![](c)", ""},
		{"![a [b](c) ![d `e`](f)\n<gh:i>](j)k", "a b d e gh:ik"},
		{"\\*a\\* \\& &amp; <b> \"c\"", "*a* & &amp; <b> \"c\""},
		{"**a*", "*a"}, {"\\", "\\"},
		{"\xff\x00*\x80*", "\xff\x00\x80"},
	} {
		if got := Plain(Read(c.content)); got != c.want {
			t.Errorf("P5: the plain text of %q: %q, want %q", c.content, got, c.want)
		}
	}
}
