package within

import (
	"fmt"
	"strings"
	"testing"

	"rubric/api"
)

// tell writes parts down in a line: texts between quotes, e() emph, s() strong, c() span,
// l[]() link, i[]() image, ~ soft, | break.
func tell(parts Parts) string {
	var out []string
	for m := parts.First(); m != nil; m = m.Behind() {
		out = append(out, tellOne(m.Value))
	}
	return strings.Join(out, " ")
}

func tellOne(p Part) string {
	switch p.Kind {
	case api.Text:
		return fmt.Sprintf("%q", p.Text)
	case api.Soft:
		return "~"
	case api.Break:
		return "|"
	case api.Span:
		return fmt.Sprintf("c(%q)", p.Text)
	case api.Link:
		return "l[" + p.Info + "](" + tell(p.Parts) + ")"
	case api.Image:
		return "i[" + p.Info + "](" + tell(p.Parts) + ")"
	case api.Emph:
		return "e(" + tell(p.Parts) + ")"
	case api.Strong:
		return "s(" + tell(p.Parts) + ")"
	}
	return fmt.Sprintf("unknown(%v)", p.Kind)
}

type reading struct{ content, want string }

func checkReadings(t *testing.T, list []reading) {
	t.Helper()
	for _, c := range list {
		if got := tell(Read(c.content)); got != c.want {
			t.Errorf("P3: within %q:\n%s\nwant\n%s", c.content, got, c.want)
		}
	}
}

func TestText(t *testing.T) {
	checkReadings(t, []reading{
		{"", ""}, {"a", `"a"`}, {"a  b", `"a  b"`},
		{"&amp; \"a\" > b", `"&amp; \"a\" > b"`},
		{"\xff\x00\x80\xc3", `"\xff\x00\x80\xc3"`},
		{"a\tb\rc\x7f", `"a\tb\rc\x7f"`},
		{"# - + 1. ~~~ === | {}", `"# - + 1. ~~~ === | {}"`},
	})
}

func TestBackslash(t *testing.T) {
	checkReadings(t, []reading{
		{`\*a*`, `"*a*"`}, {`\_a_`, `"_a_"`}, {`*a\*`, `"*a*"`}, {`*a\**`, `e("a*")`}, {`\**a*`, `"*" e("a")`}, {`\*\*`, `"**"`},
		{`\\`, `"\\"`}, {`\\*a*`, `"\\" e("a")`}, {`\\\*a*`, `"\\*a*"`}, {`\\\\`, `"\\\\"`},
		{"\\`a`", "\"`a`\""}, {"\\``a`", "\"`\" c(\"a\")"}, {"`a\\``", "\"`a``\""}, {"`a\\`b`", "c(\"a\\\\\") \"b`\""},
		{`\<ab:c>`, `"<ab:c>"`}, {`<ab\:c>`, `"<ab:c>"`},
		{`\[a](b)`, `"[a](b)"`}, {`[a\](b)`, `"[a](b)"`}, {`[a]\(b)`, `"[a](b)"`}, {`!\[a](b)`, `"![a](b)"`}, {`\![a](b)`, `"!" l[b]("a")`},
		{`\a\B\0\ \é`, `"\\a\\B\\0\\ \\é"`}, {"\\\t\\\x00\\\xff\\\x7f", `"\\\t\\\x00\\\xff\\\x7f"`}, {`a\`, `"a\\"`}, {`\`, `"\\"`},
		{"a\\\nb", `"a" | "b"`}, {"a\\\\\nb", `"a\\" ~ "b"`}, {"a\\\\\\\nb", `"a\\" | "b"`},
	})
}

func TestBackslashAheadOfEachByte(t *testing.T) {
	for b := range 256 {
		content := "a\\" + string([]byte{byte(b)}) + "c"
		want := fmt.Sprintf("%q", content)
		switch {
		case isMark(byte(b)):
			want = fmt.Sprintf("%q", "a"+string([]byte{byte(b)})+"c")
		case b == '\n':
			want = `"a" | "c"`
		}
		checkReadings(t, []reading{{content, want}})
	}
}

func TestSpans(t *testing.T) {
	checkReadings(t, []reading{
		{"`a`", `c("a")`}, {"a`b`c", `"a" c("b") "c"`}, {"``a`b``", "c(\"a`b\")"}, {"`` ` ``", "c(\"`\")"}, {"`a``b`", "c(\"a``b\")"},
		{"` a `", `c("a")`}, {"` a`", `c(" a")`}, {"` `", `c(" ")`}, {"`a\nb`", `c("a b")`}, {"`a  \nb\\\nc`", `c("a   b\\ c")`},
		{"`a", "\"`a\""}, {"``a`", "\"``a`\""}, {"`a``", "\"`a``\""}, {"`", "\"`\""}, {"``", "\"``\""}, {"`a`b`", "c(\"a\") \"b`\""},
		{"``a`b`", "\"``a\" c(\"b\")"}, {"`a``b``", "\"`a\" c(\"b\")"}, {"```a``b`c``", "\"```a\" c(\"b`c\")"},
		{"`*a*`", `c("*a*")`}, {"*a`*`", `"*a" c("*")`}, {"*`a*`*", `e(c("a*"))`}, {"`<ab:c>`", `c("<ab:c>")`}, {"`[a](b)`", `c("[a](b)")`},
		{"[a`](b)`", `"[a" c("](b)")`}, {"`[a`](b)", `c("[a") "](b)"`}, {"`\xff\x00`", `c("\xff\x00")`},
		{"``  \nb", "\"``\" | \"b\""}, {"*`*", "e(\"`\")"},
	})
}

func TestAddresses(t *testing.T) {
	checkReadings(t, []reading{
		{"<ab:c>", `l[ab:c]("ab:c")`}, {"a<ab:>b", `"a" l[ab:]("ab:") "b"`}, {"<<ab:c>>", `"<" l[ab:c]("ab:c") ">"`},
		{"<ab:*c*`d`[e](f)\\>", "l[ab:*c*`d`[e](f)\\](\"ab:*c*`d`[e](f)\\\\\")"},
		{"<ab:c", `"<ab:c"`}, {"<a:*b*>", `"<a:" e("b") ">"`}, {"<abcdefghi:`j`>", `"<abcdefghi:" c("j") ">"`}, {"<ab:c d>", `"<ab:c d>"`}, {"<ab:c\nd>", `"<ab:c" ~ "d>"`},
		{"<ab:<cd:e>", `"<ab:" l[cd:e]("cd:e")`}, {"*<ab:c*>", `"*" l[ab:c*]("ab:c*")`}, {"*<ab:c>*", `e(l[ab:c]("ab:c"))`}, {"<", `"<"`}, {"<>", `"<>"`},
		{"<ab:c>*d*", `l[ab:c]("ab:c") e("d")`}, {"<ab:c>_d_", `l[ab:c]("ab:c") e("d")`},
	})
}

func TestNewlines(t *testing.T) {
	checkReadings(t, []reading{
		{"a\nb", `"a" ~ "b"`}, {"a \nb", `"a" ~ "b"`}, {"a  \nb", `"a" | "b"`}, {"a      \nb", `"a" | "b"`}, {"a\n\nb", `"a" ~ ~ "b"`},
		{"a\t\nb", `"a\t" ~ "b"`}, {"a \t\nb", `"a \t" ~ "b"`}, {"a\t  \nb", `"a\t" | "b"`}, {"a\r\nb", `"a\r" ~ "b"`},
		{"a\\ \nb", `"a\\" ~ "b"`}, {"a\\  \nb", `"a\\" | "b"`}, {"a  \\\nb", `"a  " | "b"`}, {"a \\\nb", `"a " | "b"`}, {"a b  c \nd", `"a b  c" ~ "d"`},
		{"`a`  \nb", `c("a") | "b"`}, {"*a*  \n*b*", `e("a") | e("b")`}, {"*a  \nb*", `e("a" | "b")`}, {"*a\\\nb*", `e("a" | "b")`}, {"[a  \nb](c)  \nd", `l[c]("a" | "b") | "d"`}, {"*  \nb", `"*" | "b"`}, {"[  \nb", `"[" | "b"`},
		{"*a\n*", `"*a" ~ "*"`}, {"a*\n*b", `"a*" ~ "*b"`}, {"\n", "~"}, {"\\\n", "|"}, {"  \n", "|"},
	})
}

func TestRuns(t *testing.T) {
	checkReadings(t, []reading{
		{"*a*", `e("a")`}, {"_a_", `e("a")`}, {"**a**", `s("a")`}, {"__a__", `s("a")`}, {"*a_", `"*a_"`}, {"*", `"*"`}, {"****", `"****"`},
		{"* a*", `"* a*"`}, {"*a *", `"*a *"`}, {"a*b*", `"a" e("b")`}, {"*a*b", `e("a") "b"`}, {"a*b*c", `"a" e("b") "c"`}, {"*\ta\t*", `e("\ta\t")`},
		{"a_b_", `"a_b_"`}, {"_a_b", `"_a_b"`}, {"a_b_c", `"a_b_c"`}, {"_a_b_", `e("a_b")`}, {"._a_.", `"." e("a") "."`}, {"a_.b._c", `"a_.b._c"`}, {"(_a_)_b_", `"(" e("a") ")" e("b")`},
		{"a*.b", `"a*.b"`}, {"a*.b.*c", `"a*.b.*c"`}, {".*a*.", `"." e("a") "."`}, {"*.a.*", `e(".a.")`}, {"*(*a*)*", `e("(" e("a") ")")`}, {"_(_a_)_", `e("(" e("a") ")")`},
		{"é_a_", `"é_a_"`}, {"é*a*", `"é" e("a")`}, {"\xff*a*\x80", `"\xff" e("a") "\x80"`},
		{"*__*", `e("__")`}, {"*a\\*b*", `e("a*b")`}, {"\\*_a_", `"*" e("a")`},
	})
}

func TestPairing(t *testing.T) {
	checkReadings(t, []reading{
		{"***a***", `e(s("a"))`}, {"****a****", `s(s("a"))`}, {"*****a*****", `e(s(s("a")))`}, {"______a______", `s(s(s("a")))`},
		{"**a*", `"*" e("a")`}, {"*a**", `e("a") "*"`}, {"***a*", `"**" e("a")`}, {"*a***", `e("a") "**"`}, {"***a**", `"*" s("a")`}, {"**a***", `s("a") "*"`}, {"*****a**", `"***" s("a")`},
		{"***a* b**", `s(e("a") " b")`}, {"***a** b*", `e(s("a") " b")`}, {"**a *b***", `s("a " e("b"))`}, {"*a **b***", `e("a " s("b"))`},
		{"*a *b* c*", `e("a " e("b") " c")`}, {"**a **b** c**", `s("a " s("b") " c")`}, {"*a _b* c_", `e("a _b") " c_"`}, {"_a *b_ c*", `e("a *b") " c*"`}, {"*a **b c*", `"*a *" e("b c")`}, {"*a _b _c_* d_", `e("a _b " e("c")) " d_"`},
		{"*a* *b*", `e("a") " " e("b")`}, {"*a *b*", `"*a " e("b")`}, {"*a* b*", `e("a") " b*"`}, {"a* *b", `"a* *b"`}, {"a* b* *c*", `"a* b* " e("c")`},
		{"*a***b*", `e("a") "*" e("b")`},
	})
}

// TestPairingOfThree has runs that may both open and close.
func TestPairingOfThree(t *testing.T) {
	checkReadings(t, []reading{
		{"*a**b*", `e("a**b")`}, {"**a*b**", `s("a*b")`}, {"*a**b**c*", `e("a" s("b") "c")`}, {"**a*b*c**", `s("a" e("b") "c")`},
		{"a**b*c", `"a**b*c"`}, {"a*b**c", `"a*b**c"`}, {"a*b*c", `"a" e("b") "c"`}, {"a**b**c", `"a" s("b") "c"`},
		{"a***b***c", `"a" e(s("b")) "c"`}, {"a****b**c", `"a****b**c"`}, {"a****b*c", `"a***" e("b") "c"`}, {"a*****b*c", `"a*****b*c"`}, {"a***b******c", `"a" e(s("b")) "***c"`},
		{"**a*b", `"**a*b"`}, {"a**b*", `"a**b*"`}, {"**a*", `"*" e("a")`}, {"***a*b", `"**" e("a") "b"`}, {"***a***b", `e(s("a")) "b"`},
		{"*a**b", `"*a**b"`}, {"._._a__", `"._." e("a") "_"`},
	})
}

func TestBrackets(t *testing.T) {
	checkReadings(t, []reading{
		{"[a](b)", `l[b]("a")`}, {"![a](b)", `i[b]("a")`}, {"[](b)", `l[b]()`}, {"[]()", `l[]()`}, {"![]()", `i[]()`}, {"a[b](c)d", `"a" l[c]("b") "d"`}, {"!![a](b)", `"!" i[b]("a")`},
		{"[a](b\\))", `l[b\]("a") ")"`}, {"[a](b*c*[d]`e`)", "l[b*c*[d]`e`](\"a\")"}, {"[a](b)(c)", `l[b]("a") "(c)"`},
		{"[a]", `"[a]"`}, {"[a", `"[a"`}, {"a]", `"a]"`}, {"][", `"]["`}, {"![a", `"![a"`}, {"![a]", `"![a]"`}, {"!", `"!"`}, {"!a!", `"!a!"`}, {"](a)", `"](a)"`},
		{"[a](b", `"[a](b"`}, {"[a](b c)", `"[a](b c)"`}, {"[a] (b)", `"[a] (b)"`}, {"[a](\nb)", `"[a](" ~ "b)"`}, {"[a](<b>)", `"[a](<b>)"`}, {"[a]((b))", `"[a]((b))"`}, {"[a]( *b*)", `"[a]( " e("b") ")"`},
		{"[a][b](c)", `"[a]" l[c]("b")`}, {"[a [b] c](d)", `l[d]("a [b] c")`}, {"[[a](b)", `"[" l[b]("a")`}, {"[a](b)](c)", `l[b]("a") "](c)"`}, {"![a]![b](c)", `"![a]" i[c]("b")`},
		{"[a\nb](c)", `l[c]("a" ~ "b")`}, {"[`a`](b)", `l[b](c("a"))`}, {"[a](b)[c](d)", `l[b]("a") l[d]("c")`},
	})
}

// TestDeadOpenings has links that would hold links.
func TestDeadOpenings(t *testing.T) {
	checkReadings(t, []reading{
		{"[a [b](c) d](e)", `"[a " l[c]("b") " d](e)"`}, {"[[[a](b)](c)](d)", `"[[" l[b]("a") "](c)](d)"`},
		{"[a [b](c) [d](e) f](g)", `"[a " l[c]("b") " " l[e]("d") " f](g)"`}, {"[a [b](c)] [d](e)", `"[a " l[c]("b") "] " l[e]("d")`}, {"[a](b) [c](d)", `l[b]("a") " " l[d]("c")`},
		{"[![a](b)](c)", `l[c](i[b]("a"))`}, {"![[a](b)](c)", `i[c](l[b]("a"))`}, {"![![a](b)](c)", `i[c](i[b]("a"))`},
		{"[a ![b [c](d) e](f) g](h)", `"[a " i[f]("b " l[d]("c") " e") " g](h)"`}, {"![a [b [c](d) e](f) g](h)", `i[h]("a [b " l[d]("c") " e](f) g")`},
		{"[<ab:c>](d)", `l[d](l[ab:c]("ab:c"))`}, {"[a <ab:c> [b](e)](f)", `"[a " l[ab:c]("ab:c") " " l[e]("b") "](f)"`},
		{"[a [b](c) d] e](f)", `"[a " l[c]("b") " d] e](f)"`}, {"[a [b](c ![d](e) f](g)", `l[g]("a [b](c " i[e]("d") " f")`},
	})
}

// TestRunsAndBrackets has runs within links and images, and around them.
func TestRunsAndBrackets(t *testing.T) {
	checkReadings(t, []reading{
		{"[*a*](b)", `l[b](e("a"))`}, {"![**a** _b_](c)", `i[c](s("a") " " e("b"))`}, {"*[a](b)*", `e(l[b]("a"))`}, {"**a ![b](c) d**", `s("a " i[c]("b") " d")`},
		{"[*a](b)*", `l[b]("*a") "*"`}, {"*[a*](b)", `"*" l[b]("a*")`}, {"*[a*](b)*", `e(l[b]("a*"))`}, {"*[*a](b)*", `e(l[b]("*a"))`}, {"[a*b](c)d*", `l[c]("a*b") "d*"`}, {"*a[*b](c)*d*", `"*a" l[c]("*b") e("d")`}, {"*a[*b](c)d*", `e("a" l[c]("*b") "d")`},
		{"*[a*]", `e("[a") "]"`}, {"[*a]*", `"[" e("a]")`}, {"*a [b* c](d", `e("a [b") " c](d"`}, {"![*a]*", `"![" e("a]")`}, {"[*a [b](c)*](d)", `"[" e("a " l[c]("b")) "](d)"`},
		{"[***a*](b)**", `l[b]("**" e("a")) "**"`}, {"![*a ![b*](c)*](d)", `i[d](e("a " i[c]("b*")))`},
		{"_[a](b)_", `e(l[b]("a"))`}, {"a_[b](c)_", `"a_" l[c]("b") "_"`}, {"a*[b](c)*", `"a*" l[c]("b") "*"`}, {"[a](b)*c*", `l[b]("a") e("c")`},
	})
}

// TestThick has as many of everything as a content can have.
func TestThick(t *testing.T) {
	const most = api.MaxText
	for _, unit := range []string{
		"*", "_", "*a", "*a ", "a* ", "*a_", "*a**b", "**a* ", "_(", "*.", "***a ", "`", "`a", "`a``", "``a`b", "[", "]", "![", "[]", "[](", "[]()", "![](a)", "[a](", "<", "<ab:", "<ab:>", "\\", "\\*", "a\n", " ", "  \n", "\\\n", "\xff",
	} {
		content := strings.Repeat(unit, most/len(unit))
		if parts := Read(content); parts.First() == nil {
			t.Errorf("P3: nothing within %d times %q", most/len(unit), unit)
		}
	}
}

// depthOf tells how deep parts of a kind stand right within one another.
func depthOf(parts Parts, kind api.Kind) int {
	depth := 0
	for m := parts.First(); m != nil; m = m.Behind() {
		if m.Value.Kind == kind {
			depth = max(depth, 1+depthOf(m.Value.Parts, kind))
		}
	}
	return depth
}

// TestDeep has parts within parts as deep as a content can have them.
func TestDeep(t *testing.T) {
	for _, c := range []struct {
		open, shut string
		kind       api.Kind
	}{
		{"![", "](b)", api.Image}, {"**", "**", api.Strong}, {"__", "__", api.Strong}, {"*a ", " b*", api.Emph},
	} {
		times := (api.MaxText - 1) / len(c.open+c.shut)
		content := strings.Repeat(c.open, times) + "a" + strings.Repeat(c.shut, times)
		if got := depthOf(Read(content), c.kind); got != times {
			t.Errorf("P3: %d times %q and %q: %d deep", times, c.open, c.shut, got)
		}
	}
}
