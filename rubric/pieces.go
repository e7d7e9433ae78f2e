package rubric

import (
	"slices"

	"rubric/api"
	"rubric/blocks"
	"rubric/pages"
	"rubric/prints"
)

// piece is what a sheet keeps of a block of its text.
type piece struct {
	lines  []string
	print  prints.Print
	begin  int // at which line of the text
	page   string
	titles []api.Title // their lines counted from where the block begins: it may move
}

// setText gives a sheet its text, and writes those of its blocks that are not known.
// What was written of others than these is not kept.
func (s *Sheet) setText(text string) {
	var list []piece
	next := 0
	for _, b := range blocks.Read(text) {
		p := piece{lines: b.Lines, print: prints.Of(b.Lines), begin: b.Line}
		if known := findPiece(s.pieces, next, p); known < 0 {
			p.write(b)
		} else {
			p.page, p.titles = s.pieces[known].page, s.pieces[known].titles
			next = known + 1
		}
		list = append(list, p)
	}
	s.text, s.pieces = text, list
}

// findPiece tells which piece of a list has the lines of another one, or -1. It looks
// from a place on, and then at those ahead of it: most of what an edit leaves alone
// stands one behind the other, as it did, so that a list is not gone through each time.
func findPiece(list []piece, from int, sought piece) int {
	for i := range list {
		at := (from + i) % len(list)
		if list[at].print == sought.print && slices.Equal(list[at].lines, sought.lines) {
			return at
		}
	}
	return -1
}

// write fills in what is told of the block that a piece is of. That hangs on its lines
// alone, which is why a block of the same lines can be known again.
func (p *piece) write(b blocks.Block) {
	b.Line = 0
	alone := []blocks.Block{b}
	p.page = pages.Write(alone)
	p.titles = appendTitles(nil, alone, 0)
}
