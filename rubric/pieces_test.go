package rubric

import (
	"slices"
	"testing"

	"rubric/api"
	"rubric/blocks"
	"rubric/prints"
)

// linesPiece tells a piece of lines.
func linesPiece(lines ...string) piece {
	return piece{lines: lines, print: prints.Of(lines)}
}

func TestFindPiece(t *testing.T) {
	list := []piece{linesPiece("a"), linesPiece("b"), linesPiece("a"), linesPiece("a", "b")}
	for _, c := range []struct {
		from   int
		sought piece
		want   int
	}{
		{0, linesPiece("a"), 0}, {1, linesPiece("a"), 2}, {2, linesPiece("a"), 2}, {3, linesPiece("a"), 0}, {4, linesPiece("a"), 0},
		{0, linesPiece("b"), 1}, {1, linesPiece("b"), 1}, {2, linesPiece("b"), 1}, {4, linesPiece("a", "b"), 3},
		{0, linesPiece("c"), -1}, {3, linesPiece("ab"), -1}, {0, linesPiece("a", "b", "c"), -1}, {0, linesPiece("b", "a"), -1},
	} {
		if got := findPiece(list, c.from, c.sought); got != c.want {
			t.Errorf("P7: %q, looked for from %d on: %d, want %d", c.sought.lines, c.from, got, c.want)
		}
	}
	// Only pieces of the same fingerprint are looked at more closely.
	if got := findPiece(list, 0, piece{lines: []string{"a"}, print: prints.Of([]string{"b"})}); got != -1 {
		t.Errorf("P7: looked for by another fingerprint: %d", got)
	}
	if got := findPiece(nil, 0, linesPiece("a")); got != -1 {
		t.Errorf("P7: looked for where nothing is: %d", got)
	}
}

// TestSameFingerprint: blocks are not taken for one another, though their fingerprints be the same.
func TestSameFingerprint(t *testing.T) {
	s := mustSheet(t, "# a\n\nb")
	s.pieces[0].print = prints.Of([]string{"# c"})
	s.pieces[1].print = s.pieces[0].print
	s.Edit(0, len(s.text), "# c\n\n# c")
	checkSheet(t, s, "# c\n\n# c")
}

// TestKnownAgain: what was written of a block is not written again as long as the text has it.
func TestKnownAgain(t *testing.T) {
	s := mustSheet(t, "a\n\n# b\n\nc")
	s.pieces[1].page = "kept\n"
	s.pieces[1].titles = []api.Title{{Level: 7, Text: "kept", Line: 1}}
	for _, c := range []struct {
		at, remove int
		insert     string
		page       string
		line       int
	}{
		{0, 0, "d", "<p>da</p>\nkept\n<p>c</p>\n", 3},
		{8, 0, "e\n", "<p>da</p>\nkept\n<p>e</p>\n<p>c</p>\n", 3},
		{0, 4, "", "kept\n<p>e</p>\n<p>c</p>\n", 1},
		{0, 0, "c\n", "<p>c</p>\nkept\n<p>e</p>\n<p>c</p>\n", 2},
	} {
		s.Edit(c.at, c.remove, c.insert)
		if got := s.Page(); got != c.page {
			t.Errorf("P7: of %q there is kept:\n%q\nwant\n%q", s.text, got, c.page)
		}
		if got := s.Titles(); !slices.Equal(got, []api.Title{{Level: 7, Text: "kept", Line: c.line}}) {
			t.Errorf("P7: of %q there is kept: %v", s.text, got)
		}
	}
	s.Edit(len("c\n# b"), 0, "f")
	checkSheet(t, s, "c\n# bf\ne\n\nc")
	s.Edit(len("c\n# b"), 1, "")
	checkSheet(t, s, "c\n# b\ne\n\nc")
}

// TestKeptIsOfTheText: a sheet keeps one piece for each block of its text, with its lines, and no others.
func TestKeptIsOfTheText(t *testing.T) {
	texts := madeTexts()[:1000]
	s := mustSheet(t, "")
	for _, text := range texts {
		s.Edit(0, len(s.text), text)
		row := blocks.Read(text)
		if len(s.pieces) != len(row) {
			t.Fatalf("P7: of %q there are kept %d pieces for %d blocks", text, len(s.pieces), len(row))
		}
		for i, b := range row {
			p := s.pieces[i]
			if p.begin != b.Line || p.print != prints.Of(b.Lines) || !slices.Equal(p.lines, b.Lines) {
				t.Errorf("P7: of %q there is kept %v", text, p)
			}
		}
	}
}
