package within

import (
	"strings"
	"testing"
)

func TestIsMark(t *testing.T) {
	const marks = "!\"#$%&'()*+,-./:;<=>?@[\\]^_`{|}~"
	count := 0
	for b := range 256 {
		if isMark(byte(b)) {
			count++
		}
		if isMark(byte(b)) != (strings.IndexByte(marks, byte(b)) >= 0) {
			t.Errorf("isMark(%d): %v", b, isMark(byte(b)))
		}
	}
	if count != 32 {
		t.Errorf("%d marks", count)
	}
}

func TestIsLetter(t *testing.T) {
	const letters = "abcdefghijklmnopqrstuvwxyzABCDEFGHIJKLMNOPQRSTUVWXYZ"
	for b := range 256 {
		if isLetter(byte(b)) != (strings.IndexByte(letters, byte(b)) >= 0) {
			t.Errorf("isLetter(%d): %v", b, isLetter(byte(b)))
		}
	}
}

// checkFound has texts and what a function finds in each; - stands for nothing found.
func checkFound(t *testing.T, find func(string) (string, bool), wants map[string]string) {
	t.Helper()
	for text, want := range wants {
		got, ok := find(text)
		if !ok {
			got = "-"
		}
		if got != want {
			t.Errorf("P3: in %q: %q, want %q", text, got, want)
		}
	}
}

func TestAngled(t *testing.T) {
	checkFound(t, angled, map[string]string{
		"<ab:>": "ab:", "<ab:c>": "ab:c", "<AZ:c>d": "AZ:c", "<abcdefgh:i>": "abcdefgh:i", "<ab::>": "ab::", "<ab:c>>": "ab:c",
		"<ab:!\"#$%&'()*+,-./:;=?@[\\]^_`{|}~\x7f\x80\xff>": "ab:!\"#$%&'()*+,-./:;=?@[\\]^_`{|}~\x7f\x80\xff",

		"<": "-", "<>": "-", "<ab": "-", "<ab>": "-", "<:>": "-", "<a:b>": "-", "<abcdefghi:j>": "-", "<a1:b>": "-", "<1ab:c>": "-",
		"<ab:c": "-", "<ab:": "-", "<ab:c<d>": "-", "<ab:<>": "-", "<ab:c d>": "-", "<ab:c\nd>": "-", "<ab:\x1f>": "-", "<ab:\x00>": "-",
		"< ab:c>": "-", "<ab :c>": "-", "<\xc3\xa9b:c>": "-", "<<ab:c>": "-", "<ab@c>": "-", "<a[:c>": "-", "<`b:c>": "-", "<{b:c>": "-", "<@b:c>": "-",
	})
}

func TestAddressOf(t *testing.T) {
	checkFound(t, addressOf, map[string]string{
		"()": "", "(a)": "a", "(a)b": "a", "(a))": "a", "(a\\))": "a\\", "([a])": "[a]",
		"(!\"#$%&'*+,-./:;=?@[\\]^_`{|}~\x7f\x80\xff)": "!\"#$%&'*+,-./:;=?@[\\]^_`{|}~\x7f\x80\xff",

		"": "-", "a": "-", ")": "-", "(": "-", "(a": "-", "((a)": "-", "(a(b)": "-", "(a b)": "-", "( a)": "-", "(a )": "-", "(\na)": "-",
		"(<a>)": "-", "(a<)": "-", "(a>)": "-", "(a\t)": "-", "(\x00)": "-", " (a)": "-", "[a]": "-",
	})
}

func TestSpanned(t *testing.T) {
	between := func(text string) (string, bool) { return spanned(text, countSame(text)) }
	checkFound(t, between, map[string]string{
		"`a`": "a", "`a`b`": "a", "``a``": "a", "``a`b``": "a`b", "`a``b`": "a``b", "`a``b```c`d`": "a``b```c", "` `": " ", "`\\`": "\\", "`\n`": "\n",
		"```a````b```": "a````b", "``a`b```c``": "a`b```c",

		"`": "-", "``": "-", "`a": "-", "`a``": "-", "``a`": "-", "``a```": "-", "`a``b```": "-",
	})
}

func TestSpanText(t *testing.T) {
	for between, want := range map[string]string{
		"a": "a", " a": " a", "a ": "a ", " a ": "a", "  a  ": " a ", " ": " ", "  ": "  ", "   ": "   ",
		"\n": " ", "a\nb": "a b", "\na\n": "a", "\na ": "a", "a \n b": "a   b", "\n\n": "  ", " \t ": "\t", "\ta\t": "\ta\t", " ` ": "`", " \xff ": "\xff",
	} {
		if got := spanText(between); got != want {
			t.Errorf("P3: the span of %q: %q, want %q", between, got, want)
		}
	}
}
