package blocks

import (
	"fmt"
	"strconv"
	"strings"
	"testing"

	"rubric/api"
)

// tell writes blocks down in a line: the kind of each, its values, what is within.
func tell(list []Block) string {
	var out []string
	for _, b := range list {
		out = append(out, tellOne(b))
	}
	return strings.Join(out, " ")
}

func tellOne(b Block) string {
	switch b.Kind {
	case api.Paragraph:
		return fmt.Sprintf("par(%q)", b.Text)
	case api.Heading:
		return fmt.Sprintf("head%d(%q)", b.N, b.Text)
	case api.Code:
		return fmt.Sprintf("code(%q %q)", b.Info, b.Text)
	case api.Rule:
		return "rule"
	case api.Quote:
		return "quote[" + tell(b.Blocks) + "]"
	case api.List:
		word := "tight"
		if b.Loose {
			word = "loose"
		}
		return fmt.Sprintf("%s%d[%s]", word, b.N, tell(b.Blocks))
	case api.Item:
		return "item[" + tell(b.Blocks) + "]"
	}
	return fmt.Sprintf("unknown(%v)", b)
}

type reading struct{ text, want string }

func checkReadings(t *testing.T, list []reading) {
	t.Helper()
	for _, c := range list {
		if got := tell(Read(c.text)); got != c.want {
			t.Errorf("P3: the blocks of %q:\n%s\nwant\n%s", c.text, got, c.want)
		}
	}
}

func TestBlankLines(t *testing.T) {
	checkReadings(t, []reading{
		{"", ""}, {"\n", ""}, {" ", ""}, {"\n    \n      \n\n", ""},
		{"\n\na", `par("a")`},
		{"a\n\n\n", `par("a")`},
		{"a\n      \nb", `par("a") par("b")`},
		{"\n  \na\n\n\n# b\n\n", `par("a") head1("b")`},
	})
}

func TestParted(t *testing.T) {
	for text, want := range map[string]bool{
		"": false, "\n\n": false, "\na": false, "a\n\n": false, "# a\nb": false, "~~~\n\n~~~\na": false, "a\n\nb": true, "# a\n\nb\n": true, "# a\nb\n  \n# c\n# d": true,
	} {
		if _, got := readRow(splitLines(text)); got != want {
			t.Errorf("P3: a blank line between two blocks of %q: %v", text, got)
		}
	}
}

func TestIndentedCode(t *testing.T) {
	checkReadings(t, []reading{
		{"   a", `par("a")`},
		{"    a", `code("" "a\n")`},
		{"     a ", `code("" " a \n")`},
		{"    a\n    b\n   c", `code("" "a\nb\n") par("c")`},
		{"    a\n\n  \n      \n    b", `code("" "a\n\n\n  \nb\n")`},
		{"    a\n     \n\n", `code("" "a\n")`},
		{"\n     \n    a", `code("" "a\n")`},
		{"    # a\n    - b\n    ```\n    > c\n    ---", "code(\"\" \"# a\\n- b\\n```\\n> c\\n---\\n\")"},
		{"a\n    b", `par("a\nb")`},
		{"# a\n    b", `head1("a") code("" "b\n")`},
		{"a\n\n    b", `par("a") code("" "b\n")`},
		{"\ta", `par("\ta")`},
	})
}

func TestRules(t *testing.T) {
	checkReadings(t, []reading{
		{"---\n***\n_ _ _", "rule rule rule"},
		{"    ***", `code("" "***\n")`},
		{"* * *", "rule"},
		{"a\n***\nb", `par("a") rule par("b")`},
		{"- - -\n- a", `rule tight-1[item[par("a")]]`},
	})
}

func TestTitles(t *testing.T) {
	checkReadings(t, []reading{
		{"# a\n## b\n###### c", `head1("a") head2("b") head6("c")`},
		{"   # a #", `head1("a")`},
		{"    # a", `code("" "# a\n")`},
		{"#\n# #", `head1("") head1("")`},
		{"####### a", `par("####### a")`},
		{"# a\n---", `head1("a") rule`},
		{"# a\nb", `head1("a") par("b")`},
	})
}

func TestFencedCode(t *testing.T) {
	checkReadings(t, []reading{
		{"```\na\n```", `code("" "a\n")`},
		{"``` go x\na\n\n b\n`````  \nc", `code("go x" "a\n\n b\n") par("c")`},
		{"```\n```", `code("" "")`},
		{"```", `code("" "")`},
		{"```\n", `code("" "")`},
		{"```\n\n", `code("" "\n")`},
		{"~~~\na\n\n  \n", `code("" "a\n\n  \n")`},
		{"~~~\n```\n~~\n~~~ x\n    ~~~\n   ~~~\nb", "code(\"\" \"```\\n~~\\n~~~ x\\n    ~~~\\n\") par(\"b\")"},
		{"   ~~~\n     a\n   b\n  c\nd\n\n ~~~", `code("" "  a\nb\nc\nd\n\n")`},
		{"```\n- a\n> b\n# c\n    d", `code("" "- a\n> b\n# c\n    d\n")`},
		{"a\n```\nb\n```\nc", `par("a") code("" "b\n") par("c")`},
		{"``` a`\nb", "par(\"``` a`\\nb\")"},
		{"a\n``` b`\nc", "par(\"a\\n``` b`\\nc\")"},
		{"```\n```\n```", `code("" "") code("" "")`},
	})
}

func TestQuotes(t *testing.T) {
	checkReadings(t, []reading{
		{">", "quote[]"},
		{"> \n>\n>  ", "quote[]"},
		{"> a\n>b\n   > c", `quote[par("a\nb\nc")]`},
		{">    a\n>     b", `quote[par("a\nb")]`},
		{">     a", `quote[code("" "a\n")]`},
		{"    > a", `code("" "> a\n")`},
		{"> a\nb", `quote[par("a")] par("b")`},
		{"> a\n\n> b", `quote[par("a")] quote[par("b")]`},
		{"> a\n>\n> b", `quote[par("a") par("b")]`},
		{"> a\n    > b", `quote[par("a")] code("" "> b\n")`},
		{"> a\n===", `quote[par("a")] par("===")`},
		{"> a\n> ===", `quote[head1("a")]`},
		{"> ```\n> a\n\n> b", `quote[code("" "a\n")] quote[par("b")]`},
		{"> > a\n> > b\n> c", `quote[quote[par("a\nb")] par("c")]`},
		{"> - a\n> - b\n- c", `quote[tight-1[item[par("a")] item[par("b")]]] tight-1[item[par("c")]]`},
	})
}

func TestParagraphs(t *testing.T) {
	checkReadings(t, []reading{
		{"a  \n  b   \n       c   ", `par("a  \nb   \nc")`},
		{"a\t", `par("a\t")`},
		{"a\n\t", `par("a\n\t")`},
		{"a\n# b", `par("a") head1("b")`},
		{"a\n    # b", `par("a\n# b")`},
		{"a\n#b", `par("a\n#b")`},
		{"a\n> b", `par("a") quote[par("b")]`},
		{"a\n    > b", `par("a\n> b")`},
		{"a\n    ```", "par(\"a\\n```\")"},
		{"a\n    ***", `par("a\n***")`},
		{"a\n   ***", `par("a") rule`},
		{"a\n- b", `par("a") tight-1[item[par("b")]]`},
		{"a\n    - b", `par("a\n- b")`},
		{"a\n1) b", `par("a") tight1[item[par("b")]]`},
		{"a\n001. b", `par("a") tight1[item[par("b")]]`},
		{"a\n2. b\n0. c\n10) d", `par("a\n2. b\n0. c\n10) d")`},
		{"a\n+\n* \n1.", `par("a\n+\n* \n1.")`},
		{"\xff\xfe\n\x00", `par("\xff\xfe\n\x00")`},
	})
}

func TestUnderlines(t *testing.T) {
	checkReadings(t, []reading{
		{"a\n=", `head1("a")`},
		{"a\n-", `head2("a")`},
		{"a\n- ", `head2("a")`},
		{"a\n---", `head2("a")`},
		{"a\n   ---   ", `head2("a")`},
		{"a\n    ---", `par("a\n---")`},
		{"a\n- - -", `par("a") rule`},
		{"a\n***", `par("a") rule`},
		{"a \n b  \n===\nc", `head1("a \nb") par("c")`},
		{"===", `par("===")`},
		{"===\n===", `head1("===")`},
		{"--", `par("--")`},
		{"a\n\n===", `par("a") par("===")`},
		{"a\n=\n=\n=", `head1("a") head1("=")`},
		{"a\n---\n---", `head2("a") rule`},
	})
}

func TestListItems(t *testing.T) {
	checkReadings(t, []reading{
		{"- a\n- b\n+ c", `tight-1[item[par("a")] item[par("b")]] tight-1[item[par("c")]]`},
		{"3. a\n1. b\n9) c", `tight3[item[par("a")] item[par("b")]] tight9[item[par("c")]]`},
		{"00012) a", `tight12[item[par("a")]]`},
		{"- a\n  b\n c", `tight-1[item[par("a\nb")]] par("c")`},
		{"-    a\n\n     b\n\n    c", `loose-1[item[par("a") par("b")]] code("" "c\n")`},
		{"-     a\n  b", `tight-1[item[code("" "a\n") par("b")]]`},
		{"   - a\n     b\n    c", `tight-1[item[par("a\nb")]] code("" "c\n")`},
		{"- a\n - b\n  - c\n   - d", `tight-1[item[par("a")] item[par("b")] item[par("c")] item[par("d")]]`},
		{"   - a\n  - b\n - c\n- d", `tight-1[item[par("a")] item[par("b")] item[par("c")] item[par("d")]]`},
		{"   10. a\n    - b", `tight10[item[par("a")]] code("" "- b\n")`},
		{"- a\n***\n- b", `tight-1[item[par("a")]] rule tight-1[item[par("b")]]`},
		{"* a\n* * *\n* b", `tight-1[item[par("a")]] rule tight-1[item[par("b")]]`},
		{"- a\n# b", `tight-1[item[par("a")]] head1("b")`},
		{"- a\n--", `tight-1[item[par("a")]] par("--")`},
		{"- a\n  -", `tight-1[item[head2("a")]]`},
		{"- # a\n  b\n- > c\n- ~~~ d\n  e", `tight-1[item[head1("a") par("b")] item[quote[par("c")]] item[code("d" "e\n")]]`},
		{"- * * *", `tight-1[item[rule]]`},
		{"- ~~~\n  a\n\n\nb", `tight-1[item[code("" "a\n")]] par("b")`},
		{"- a\n\n      b", `loose-1[item[par("a") code("" "b\n")]]`},
		{"1. - 2) a", `tight1[item[tight-1[item[tight2[item[par("a")]]]]]]`},
	})
}

func TestEmptyItems(t *testing.T) {
	checkReadings(t, []reading{
		{"-", "tight-1[item[]]"},
		{"1)", "tight1[item[]]"},
		{"-    ", "tight-1[item[]]"},
		{"-\n", "tight-1[item[]]"},
		{"-\n-\n-", "tight-1[item[] item[] item[]]"},
		{"-\n  a", `tight-1[item[par("a")]]`},
		{"-\n a", `tight-1[item[]] par("a")`},
		{"-    \n  a", `tight-1[item[par("a")]]`},
		{"-\n      a", `tight-1[item[code("" "a\n")]]`},
		{"-\n\n  a", `tight-1[item[]] par("a")`},
		{"-\n    \n    a", `tight-1[item[]] code("" "a\n")`},
		{"-\n\n- a", `loose-1[item[] item[par("a")]]`},
		{"-\n\n  - a", `loose-1[item[] item[par("a")]]`},
		{"- a\n-\n- b", `tight-1[item[par("a")] item[] item[par("b")]]`},
		{"- a\n\n-", `loose-1[item[par("a")] item[]]`},
		{"-\n  a\n\n  b", `loose-1[item[par("a") par("b")]]`},
	})
}

func TestTightAndLoose(t *testing.T) {
	checkReadings(t, []reading{
		{"- a\n\n- b\n- c", `loose-1[item[par("a")] item[par("b")] item[par("c")]]`},
		{"- a\n- b\n\n- c", `loose-1[item[par("a")] item[par("b")] item[par("c")]]`},
		{"- a\n- b\n\n\n", `tight-1[item[par("a")] item[par("b")]]`},
		{"- a\n\n+ b", `tight-1[item[par("a")]] tight-1[item[par("b")]]`},
		{"- a\n\n- - -", `tight-1[item[par("a")]] rule`},
		{"- a\n\n  b\n- c", `loose-1[item[par("a") par("b")] item[par("c")]]`},
		{"- # a\n  b\n  ***\n  c", `tight-1[item[head1("a") par("b") rule par("c")]]`},
		{"- ~~~\n  a\n\n  b\n  ~~~", `tight-1[item[code("" "a\n\nb\n")]]`},
		{"-     a\n\n\n      b", `tight-1[item[code("" "a\n\n\nb\n")]]`},
		{"- > a\n  >\n  > b", `tight-1[item[quote[par("a") par("b")]]]`},
		{"- > a\n\n  > b", `loose-1[item[quote[par("a")] quote[par("b")]]]`},
		{"- a\n  - b\n\n    c\n- d", `tight-1[item[par("a") loose-1[item[par("b") par("c")]]] item[par("d")]]`},
		{"- a\n  - b\n\n  - c\n- d", `tight-1[item[par("a") loose-1[item[par("b")] item[par("c")]]] item[par("d")]]`},
		{"- a\n  - b\n\n- c", `loose-1[item[par("a") tight-1[item[par("b")]]] item[par("c")]]`},
		{"- a\n  - b\n\n  c", `loose-1[item[par("a") tight-1[item[par("b")]] par("c")]]`},
		{"- - a\n\n    b", `tight-1[item[loose-1[item[par("a") par("b")]]]]`},
		{"> - a\n>\n> - b", `quote[loose-1[item[par("a")] item[par("b")]]]`},
		{"> - a\n>\n\nb", `quote[tight-1[item[par("a")]]] par("b")`},
	})
}

// tellEach writes down something of each block, and behind it that of what is within.
func tellEach(list []Block, between string, tell func(Block) string) string {
	var out []string
	for _, b := range list {
		told := tell(b)
		if len(b.Blocks) > 0 {
			told += "[" + tellEach(b.Blocks, between, tell) + "]"
		}
		out = append(out, told)
	}
	return strings.Join(out, between)
}

// tellLine tells at which line a block begins.
func tellLine(b Block) string { return strconv.Itoa(b.Line) }

// tellRow tells which lines a block has.
func tellRow(b Block) string { return strings.Join(b.Lines, "|") }

func TestLines(t *testing.T) {
	for _, c := range []reading{
		{"a", "0"}, {"\n  \na", "2"}, {"a\nb\n\n\nc", "0 4"}, {"# a\n# b\nc\n---\nd", "0 1 2 4"},
		{"a\nb\n===\nc\nd\n--", "0 3"},
		{"~~~\n\n# a\n~~~\nb", "0 4"},
		{"    a\n\n    b\n\nc", "0 4"},
		{">\n> a\n>\n> b\nc", "0[1 3] 4"},
		{"a\n> b\n> > c\n>\n> > d", "0 1[0 1[0] 3[0]]"},
		{"- a\n- b\n\n\n- c", "0[0[0] 1[0] 4[0]]"},
		{"a\n-\n  b\n\n  c\n- d\n", "0 2 4 5[0[0]]"},
		{"\n-\n  b\n\n  c\n- d\n", "1[0[1 3] 4[0]]"},
		{"-\n\n  a", "0[0] 2"},
		{"1. a\n\n   2. b\n      c\n   3. d\n\ne", "0[0[0 2[0[0] 2[0]]]] 6"},
	} {
		if got := tellEach(Read(c.text), " ", tellLine); got != c.want {
			t.Errorf("P5: where the blocks of %q begin: %s, want %s", c.text, got, c.want)
		}
	}
}

func TestLinesOfBlocks(t *testing.T) {
	for _, c := range []reading{
		{"", ""}, {"\n \n", ""}, {" a ", " a "}, {"\n  \na\n\n", "a"}, {"a\nb\n\n\nc\n", "a|b, c"},
		{"# a\n ***\nb\n---\nc", "# a,  ***, b|---, c"},
		{"    a\n\n    b\n\n", "    a||    b"},
		{"~~~\n\na\n  \n~~~~ \nb", "~~~||a|  |~~~~ , b"}, {"~~~\n\n ", "~~~|| "}, {"~~~\n\n", "~~~|"},
		{"> a\n>\n>  # b\nc", "> a|>|>  # b[a,  # b], c"},
		{" - a\n\n   b\n\n- c\n\nd", " - a||   b||- c[ - a||   b[a, b], - c[c]], d"},
		{"-\n\n  a", "-[-],   a"}, {"-\n  a\n\n", "-|  a[-|  a[a]]"},
		{"1. - a\n\n2. b", "1. - a||2. b[1. - a[- a[- a[a]]], 2. b[b]]"},
	} {
		if got := tellEach(Read(c.text), ", ", tellRow); got != c.want {
			t.Errorf("P7: the lines of the blocks of %q:\n%s\nwant\n%s", c.text, got, c.want)
		}
	}
}

// checkAlone reads the lines of each block by themselves.
func checkAlone(t *testing.T, list []Block) {
	t.Helper()
	for _, b := range list {
		if b.Kind != api.Item {
			alone := Read(strings.Join(b.Lines, "\n") + "\n")
			if got, want := tell(alone), tellOne(b); got != want {
				t.Errorf("P7: %q by itself:\n%s\nwant\n%s", b.Lines, got, want)
			}
		}
		checkAlone(t, b.Blocks)
	}
}

// TestBlocksAlone: what a block is hangs on no lines but its own.
func TestBlocksAlone(t *testing.T) {
	lines := []string{"", "  ", "a", "- a", "-", "+", "  - b", "    c", "> d", ">", "> - e", "2. f", "1) g", "~~~", "   ~~~~", "```", "===", "---", "# h", "   i"}
	for _, first := range lines {
		for _, second := range lines {
			for _, third := range lines {
				for _, fourth := range lines {
					checkAlone(t, Read(strings.Join([]string{first, second, third, fourth}, "\n")+"\n"))
				}
			}
		}
	}
}
