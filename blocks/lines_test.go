package blocks

import (
	"slices"
	"testing"
)

func TestSplitLines(t *testing.T) {
	for _, c := range []struct {
		text string
		want []string
	}{
		{"", nil},
		{"\n", []string{""}},
		{"\n\n", []string{"", ""}},
		{"a", []string{"a"}},
		{"a\n", []string{"a"}},
		{"a\n\n", []string{"a", ""}},
		{"a\n ", []string{"a", " "}},
		{"\na", []string{"", "a"}},
		{"a\r\nb\vc\xe2\x80\xa8d", []string{"a\r", "b\vc\xe2\x80\xa8d"}},
	} {
		if got := splitLines(c.text); !slices.Equal(got, c.want) {
			t.Errorf("the lines of %q: %q, want %q", c.text, got, c.want)
		}
	}
}

func TestIsBlank(t *testing.T) {
	for line, want := range map[string]bool{"": true, " ": true, "      ": true, "a": false, "  a": false, "\t": false, " \r": false, "\x00": false, "\xa0": false} {
		if isBlank(line) != want {
			t.Errorf("isBlank(%q): %v", line, !want)
		}
	}
}

func TestIsRule(t *testing.T) {
	for _, line := range []string{"***", "---", "___", "   ---", "- - -", "-  --   -  ", "____________", " * * * "} {
		if !isRule(line) {
			t.Errorf("%q is a rule", line)
		}
	}
	for _, line := range []string{"", "   ", "--", "- -", "    ---", "--- a", "-*-", "**-", "+++", "===", "---\t", "\t---", "-\xff--", "a---"} {
		if isRule(line) {
			t.Errorf("%q is no rule", line)
		}
	}
}

func TestTitle(t *testing.T) {
	for _, c := range []struct {
		line    string
		level   int
		content string
	}{
		{"#", 1, ""}, {"# ", 1, ""}, {"######", 6, ""}, {"   ### a", 3, "a"}, {"#    a  b   ", 1, "a  b"},
		{"# a #", 1, "a"}, {"# a ####  ", 1, "a"}, {"# a   #", 1, "a"}, {"# a#", 1, "a#"}, {"# a #b", 1, "a #b"},
		{"# #", 1, ""}, {"## ##", 2, ""}, {"# # #", 1, "#"}, {"# a # #", 1, "a #"}, {`# a \#`, 1, `a \#`},
		{"# \ta\t", 1, "\ta\t"}, {"# a\t#", 1, "a\t#"}, {"# \xff\x00", 1, "\xff\x00"},
	} {
		if got := titleLevel(c.line); got != c.level {
			t.Errorf("the level of %q: %d, want %d", c.line, got, c.level)
		}
		if got := titleContent(c.line); got != c.content {
			t.Errorf("the content of %q: %q, want %q", c.line, got, c.content)
		}
	}
	for _, line := range []string{"", "a", "#a", "#######", "####### a", "    # a", "#\ta", `\# a`, "\t# a", "#\xa0a"} {
		if titleLevel(line) != 0 {
			t.Errorf("%q is no title", line)
		}
	}
}

func TestFenceOf(t *testing.T) {
	for _, c := range []struct {
		line string
		want fence
	}{
		{"```", fence{'`', 3, 0, ""}},
		{"~~~", fence{'~', 3, 0, ""}},
		{"   `````  ", fence{'`', 5, 3, ""}},
		{"~~~  a  b  ", fence{'~', 3, 0, "a  b"}},
		{"```a", fence{'`', 3, 0, "a"}},
		{"~~~a`b~c", fence{'~', 3, 0, "a`b~c"}},
		{"~~~ ~", fence{'~', 3, 0, "~"}},
		{"```~~~", fence{'`', 3, 0, "~~~"}},
		{"```\ta\xff", fence{'`', 3, 0, "\ta\xff"}},
	} {
		if got, ok := fenceOf(c.line); !ok || got != c.want {
			t.Errorf("%q: %v %v, want %v", c.line, got, ok, c.want)
		}
	}
	for _, line := range []string{"", "``", "~~", "    ```", "```a`", "``` `", "``~", "a```", "\t~~~"} {
		if _, ok := fenceOf(line); ok {
			t.Errorf("%q is no fence", line)
		}
	}
}

func TestClosedBy(t *testing.T) {
	open := fence{mark: '~', width: 4, indent: 1}
	for line, want := range map[string]bool{
		"~~~~": true, "   ~~~~~~  ": true, "~~~": false, "    ~~~~": false, "~~~~ a": false, "~~~~ ~": false, "````": false, "": false, "    ": false, "~~~~\t": false,
	} {
		if open.closedBy(line) != want {
			t.Errorf("a fence of 4 ~ closed by %q: %v", line, !want)
		}
	}
}

func TestQuoted(t *testing.T) {
	for line, want := range map[string]string{">": "", "> ": "", ">  ": " ", "> a": "a", ">a": "a", ">  a": " a", "   >> a": "> a", ">\ta": "\ta"} {
		if !isQuoted(line) {
			t.Errorf("%q is a quoted line", line)
		} else if got := unquoted(line); got != want {
			t.Errorf("%q unquoted: %q, want %q", line, got, want)
		}
	}
	for _, line := range []string{"", "a", "    > a", "a > b", "\t>", `\>`} {
		if isQuoted(line) {
			t.Errorf("%q is no quoted line", line)
		}
	}
}

func TestItemOf(t *testing.T) {
	for _, c := range []struct {
		line string
		want item
	}{
		{"- a", item{'-', -1, 2, false}},
		{"+ a", item{'+', -1, 2, false}},
		{"* a", item{'*', -1, 2, false}},
		{"   -    a", item{'-', -1, 8, false}},
		{"-     a", item{'-', -1, 2, false}},
		{"  12)     a", item{')', 12, 6, false}},
		{"-", item{'-', -1, 2, true}},
		{"-    ", item{'-', -1, 2, true}},
		{"  1.  ", item{'.', 1, 5, true}},
		{"0. a", item{'.', 0, 3, false}},
		{"000. a", item{'.', 0, 5, false}},
		{"007)  a", item{')', 7, 6, false}},
		{"999999. a", item{'.', 999999, 8, false}},
		{"- \ta", item{'-', -1, 2, false}},
		{"- - a", item{'-', -1, 2, false}},
	} {
		if got, ok := itemOf(c.line); !ok || got != c.want {
			t.Errorf("%q: %v %v, want %v", c.line, got, ok, c.want)
		}
	}
	for _, line := range []string{"", "a", "-a", "--", "1", "1 a", "1.a", "1a. b", "-1. a", "+1. a", ". a", ") a", "1234567. a", "0000001. a", "    - a", "-\ta", "1: a", "1-", "\xd9\xa1. a"} {
		if _, ok := itemOf(line); ok {
			t.Errorf("%q is no item", line)
		}
	}
}

func TestUnderlineLevel(t *testing.T) {
	for line, want := range map[string]int{
		"=": 1, "=====": 1, "   ==  ": 1, "-": 2, "---": 2, "   -   ": 2,
		"": 0, "  ": 0, "= =": 0, "- -": 0, "=-": 0, "-=": 0, "    =": 0, "    -": 0, "==a": 0, "=\t": 0, "*": 0, "_": 0, "\x00": 0,
	} {
		if got := underlineLevel(line); got != want {
			t.Errorf("the level of the underline %q: %d, want %d", line, got, want)
		}
	}
}
