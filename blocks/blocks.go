// Package blocks cuts a text into its blocks.
package blocks

import (
	"strings"

	"rubric/api"
)

// Block is a block of a text, or an item of a list.
type Block struct {
	Kind   api.Kind
	Line   int      // where it begins, counted from where that begins which it stands in
	Lines  []string // which it has of the row that it stands in
	N      int      // a heading's level, a list's number
	Info   string   // of code
	Text   string   // a code's text, the content of a heading or a paragraph
	Loose  bool     // of a list
	Blocks []Block  // of a quote or an item; a list's items
}

// Read tells the blocks of a text.
func Read(text string) []Block {
	list, _ := readRow(splitLines(text))
	return list
}

// readRow tells the blocks of a row of lines, and whether a blank line parts two of
// them, which is what makes a list loose.
func readRow(row []string) (list []Block, parted bool) {
	for at := countBlank(row); at < len(row); {
		block, size := readBlock(row[at:])
		block.Line, block.Lines = at, row[at:at+size]
		list = append(list, block)
		at += size
		gap := countBlank(row[at:])
		at += gap
		if gap > 0 && at < len(row) {
			parted = true
		}
	}
	return list, parted
}

// countBlank tells how many blank lines a row begins with.
func countBlank(row []string) int {
	n := 0
	for n < len(row) && isBlank(row[n]) {
		n++
	}
	return n
}

// readBlock tells the block that begins at a row's first line, which is not blank,
// and how many lines it has.
func readBlock(row []string) (Block, int) {
	first := row[0]
	if indentOf(first) >= deepIndent {
		return readIndented(row)
	}
	if isRule(first) {
		return Block{Kind: api.Rule}, 1
	}
	if level := titleLevel(first); level > 0 {
		return Block{Kind: api.Heading, N: level, Text: titleContent(first)}, 1
	}
	if open, ok := fenceOf(first); ok {
		return readFenced(row, open)
	}
	if isQuoted(first) {
		return readQuote(row)
	}
	if head, ok := itemOf(first); ok {
		return readList(row, head)
	}
	return readParagraph(row)
}

func readIndented(row []string) (Block, int) {
	size := countDeep(row, deepIndent)
	var text strings.Builder
	for _, line := range row[:size] {
		text.WriteString(cutFirst(line, deepIndent))
		text.WriteByte('\n')
	}
	return Block{Kind: api.Code, Text: text.String()}, size
}

// countDeep tells how many lines belong to the first one by their indent. Blank ones
// do, whatever theirs, but not at the end.
func countDeep(row []string, margin int) int {
	size := 1
	for at := 1; at < len(row); at++ {
		if isBlank(row[at]) {
			continue
		}
		if indentOf(row[at]) < margin {
			break
		}
		size = at + 1
	}
	return size
}

func readFenced(row []string, open fence) (Block, int) {
	block := Block{Kind: api.Code, Info: open.info}
	var text strings.Builder
	size := 1
	for size < len(row) && !open.closedBy(row[size]) {
		line := row[size]
		text.WriteString(line[min(open.indent, indentOf(line)):])
		text.WriteByte('\n')
		size++
	}
	block.Text = text.String()
	// The line that closes belongs to the block; at the end of the row there is none.
	return block, min(size+1, len(row))
}

func readQuote(row []string) (Block, int) {
	var own []string
	for len(own) < len(row) && isQuoted(row[len(own)]) {
		own = append(own, unquoted(row[len(own)]))
	}
	list, _ := readRow(own)
	return Block{Kind: api.Quote, Blocks: list}, len(own)
}

func readList(row []string, head item) (Block, int) {
	list := Block{Kind: api.List, N: head.number}
	size := 0
	for {
		own := itemRow(row[size:], head)
		blocks, parted := readRow(own)
		list.Blocks = append(list.Blocks, Block{Kind: api.Item, Line: size, Lines: row[size : size+len(own)], Blocks: blocks})
		size += len(own)
		gap := countBlank(row[size:])
		next, more := nextItem(row[size+gap:], head.kind)
		list.Loose = list.Loose || parted || more && gap > 0
		if !more {
			return list, size
		}
		head = next
		size += gap
	}
}

// itemRow tells the lines of the item that begins at a row's first line.
func itemRow(row []string, head item) []string {
	// Without this, a marker by itself would draw in all that is indented below it.
	if head.empty && len(row) > 1 && isBlank(row[1]) {
		return []string{""}
	}
	own := make([]string, countDeep(row, head.margin))
	for i := range own {
		own[i] = cutFirst(row[i], head.margin)
	}
	return own
}

// nextItem tells the item that a row begins with, if it can belong to a list of a kind.
func nextItem(row []string, kind byte) (item, bool) {
	if len(row) == 0 || isRule(row[0]) {
		return item{}, false
	}
	next, ok := itemOf(row[0])
	return next, ok && next.kind == kind
}

func readParagraph(row []string) (Block, int) {
	size := 1
	for size < len(row) && !endsParagraph(row[size]) {
		size++
	}
	block := Block{Kind: api.Paragraph, Text: joinRests(row[:size])}
	if size == len(row) {
		return block, size
	}
	// An underline goes first: a row of - is one, though it could be a rule or an item.
	if level := underlineLevel(row[size]); level > 0 {
		block.Kind, block.N = api.Heading, level
		size++
	}
	return block, size
}

func endsParagraph(line string) bool {
	if isBlank(line) || underlineLevel(line) > 0 || isRule(line) || titleLevel(line) > 0 || isQuoted(line) {
		return true
	}
	if _, ok := fenceOf(line); ok {
		return true
	}
	head, ok := itemOf(line)
	return ok && head.breaksParagraph()
}

func joinRests(row []string) string {
	rests := make([]string, len(row))
	for i, line := range row {
		rests[i] = line[indentOf(line):]
	}
	return strings.TrimRight(strings.Join(rests, "\n"), " ")
}
