package rubric

import (
	"regexp"
	"slices"
	"strconv"
	"strings"
	"testing"

	"rubric/api"
)

func mustTitles(t *testing.T, text string) []api.Title {
	t.Helper()
	titles, e := Titles(text)
	if e != api.OK {
		t.Fatalf("P5: Titles(%q): error %d", text, e)
	}
	return titles
}

func TestTitles(t *testing.T) {
	for _, c := range []struct {
		text string
		want []api.Title
	}{
		{"", nil},
		{"a\n\n- b\n> c\n***\n    # d\n~~~\n# e", nil},
		{"# a", []api.Title{{Level: 1, Text: "a", Line: 0}}},
		{"\n\n   ###### a ##\n", []api.Title{{Level: 6, Text: "a", Line: 2}}},
		{"#\na\n## ##", []api.Title{{Level: 1, Line: 0}, {Level: 2, Line: 2}}},
		{"a\n===\nb\n-\nc", []api.Title{{Level: 1, Text: "a", Line: 0}, {Level: 2, Text: "b", Line: 2}}},
		// An underlined heading begins at the first line of its content.
		{"\n a\nb  \nc\\\nd\n---\n# e", []api.Title{{Level: 2, Text: "a b c d", Line: 1}, {Level: 1, Text: "e", Line: 6}}},
		{"# *a* `b` **_c_**", []api.Title{{Level: 1, Text: "a b c", Line: 0}}},
		{"# [a](b) ![c *d*](e) <fg:h>", []api.Title{{Level: 1, Text: "a c d fg:h", Line: 0}}},
		// What is plain is not written as it is on a page.
		{"# &<>\" \\& `<`", []api.Title{{Level: 1, Text: "&<>\" & <", Line: 0}}},
		{"# \xff\x00\t", []api.Title{{Level: 1, Text: "\xff\x00\t", Line: 0}}},
		{"> # a\n>\n> b\n> =\n\n# c", []api.Title{{Level: 1, Text: "a", Line: 0}, {Level: 1, Text: "b", Line: 2}, {Level: 1, Text: "c", Line: 5}}},
		{"a\n\n> > # b\n> # c\n> > > # d", []api.Title{{Level: 1, Text: "b", Line: 2}, {Level: 1, Text: "c", Line: 3}, {Level: 1, Text: "d", Line: 4}}},
		{"- # a\n- b\n  # c\n\n\n- d\n\n  ## e", []api.Title{{Level: 1, Text: "a", Line: 0}, {Level: 1, Text: "c", Line: 2}, {Level: 2, Text: "e", Line: 7}}},
		{"a\n\n1. b\n\n   - c\n   -\n     # d\n     > e\n     > f\n     > -\n2. # g", []api.Title{{Level: 1, Text: "d", Line: 6}, {Level: 2, Text: "e f", Line: 7}, {Level: 1, Text: "g", Line: 10}}},
		{"~~~\n# a\n~~~\n\n    b\n    ===\n# c", []api.Title{{Level: 1, Text: "c", Line: 6}}},
		{"> ~~~\n> # a\n\n# b", []api.Title{{Level: 1, Text: "b", Line: 3}}},
	} {
		if got := mustTitles(t, c.text); !slices.Equal(got, c.want) {
			t.Errorf("P5: Titles(%q):\n%v\nwant\n%v", c.text, got, c.want)
		}
	}
}

func TestTitlesOfLongText(t *testing.T) {
	line := "# a\n"
	whole := strings.Repeat(line, api.MaxText/len(line))
	titles := mustTitles(t, whole)
	if len(titles) != api.MaxText/len(line) {
		t.Errorf("P5: Titles of %d bytes: %d of them", len(whole), len(titles))
	}
	for i, title := range titles {
		if title != (api.Title{Level: 1, Text: "a", Line: i}) {
			t.Errorf("P5: Titles of %d bytes: at %d there is %v", len(whole), i, title)
		}
	}
	for _, text := range []string{whole + "#", strings.Repeat("\n", api.MaxText+1)} {
		if titles, e := Titles(text); e != api.ErrLong || len(titles) != 0 {
			t.Errorf("P5: Titles of %d bytes: %d of them, error %d", len(text), len(titles), e)
		}
	}
}

// lower lets titles begin so many lines further down.
func lower(titles []api.Title, by int) []api.Title {
	out := slices.Clone(titles)
	for i := range out {
		out[i].Line += by
	}
	return out
}

// TestTitlesOfTree: titles are the headings of the tree, at texts of any bytes.
func TestTitlesOfTree(t *testing.T) {
	for _, text := range madeTexts() {
		titles, tree := mustTitles(t, text), mustTree(t, text)
		var want []api.Title
		for i, n := range tree {
			if n.Kind == api.Heading {
				want = append(want, api.Title{Level: n.N, Text: plainOf(innerOf(tree[i:]))})
			}
		}
		for i := range min(len(want), len(titles)) {
			want[i].Line = titles[i].Line
		}
		if !slices.Equal(titles, want) {
			t.Errorf("P5: Titles(%q):\n%v\nits tree says\n%v", text, titles, want)
		}
	}
}

// TestTitlesLines: with its number at each line's end, the first number that a title has in it is that of its line.
func TestTitlesLines(t *testing.T) {
	number := regexp.MustCompile("@([0-9]+)@")
	checked := 0
	for _, text := range madeTexts() {
		lines := linesOf(strings.ReplaceAll(text, "@", "#"))
		for i := range lines {
			// Lines that may be underlines, or are nothing but marks of what is around, stay so.
			if strings.Trim(lines[i], " >-=") != "" {
				lines[i] += "@" + strconv.Itoa(i) + "@"
			}
		}
		numbered := strings.Join(lines, "\n")
		if len(numbered) > api.MaxText {
			continue
		}
		for _, title := range mustTitles(t, numbered) {
			if title.Line < 0 || title.Line >= len(lines) {
				t.Fatalf("P5: Titles(%q): %v", numbered, title)
			}
			if !number.MatchString(lines[title.Line]) {
				continue
			}
			checked++
			if found := number.FindStringSubmatch(title.Text); found == nil || found[1] != strconv.Itoa(title.Line) {
				t.Errorf("P5: Titles(%q): %v", numbered, title)
			}
		}
	}
	if checked < 500 {
		t.Errorf("P5: only %d titles were looked at", checked)
	}
}

// TestTitlesFurtherOn: what is laid ahead of a text, or around it, lets its titles be, but for the lines.
func TestTitlesFurtherOn(t *testing.T) {
	for _, text := range madeTexts() {
		want := mustTitles(t, text)
		lines := linesOf(text)
		for _, c := range []struct {
			what, text string
			by         int
		}{
			{"behind two blank lines", "\n  \n" + text, 2},
			{"behind a rule", "***\n" + text, 1},
			{"behind code", "~~~\n# a\n~~~\n" + text, 3},
			{"in a quote", "> " + strings.Join(lines, "\n> "), 0},
			{"in a quote in a quote", "***\n>> " + strings.Join(lines, "\n> > "), 1},
			{"in an item", "+\n  ***\n  " + strings.Join(lines, "\n  "), 2},
			{"in a quote in an item", "- a\n- > " + strings.Join(lines, "\n  > "), 1},
		} {
			if len(c.text) > api.MaxText {
				continue
			}
			if got := mustTitles(t, c.text); !slices.Equal(got, lower(want, c.by)) {
				t.Errorf("P5: %s: Titles(%q):\n%v\nwant\n%v", c.what, c.text, got, lower(want, c.by))
			}
		}
	}
}
