package blocks

import (
	"strconv"
	"strings"
)

const (
	// deepIndent is the indent from which on a line has no marks of its own.
	deepIndent = 4
	// maxHashes is how many # a title has at most.
	maxHashes = 6
	// minWidth is how many marks a rule and a fence have at least.
	minWidth = 3
	// maxDigits is how many digits a marker has at most.
	maxDigits = 6
	// farSpaces is how many spaces behind a marker are no longer part of the margin.
	farSpaces = 5
	// noNumber is the number of a list whose markers have no digits.
	noNumber = -1
)

// splitLines leaves out what stands behind the last newline, if that is nothing.
func splitLines(text string) []string {
	if text == "" {
		return nil
	}
	return strings.Split(strings.TrimSuffix(text, "\n"), "\n")
}

func isBlank(line string) bool {
	return indentOf(line) == len(line)
}

func indentOf(line string) int {
	return countFirst(line, ' ')
}

// countFirst tells how many of a byte a text begins with.
func countFirst(text string, b byte) int {
	n := 0
	for n < len(text) && text[n] == b {
		n++
	}
	return n
}

// cutFirst leaves out the first n bytes, or all, if there are fewer.
func cutFirst(line string, n int) string {
	return line[min(n, len(line)):]
}

// shallowRest tells a line's rest; of a line too deep for marks it is empty,
// and so is like none of the lines that have a meaning.
func shallowRest(line string) string {
	indent := indentOf(line)
	if indent >= deepIndent {
		return ""
	}
	return line[indent:]
}

func isRule(line string) bool {
	rest := shallowRest(line)
	if rest == "" || strings.IndexByte("*-_", rest[0]) < 0 {
		return false
	}
	marks := strings.Count(rest, rest[:1])
	return marks >= minWidth && marks+strings.Count(rest, " ") == len(rest)
}

// titleLevel is 0 for a line that is no title.
func titleLevel(line string) int {
	rest := shallowRest(line)
	hashes := countFirst(rest, '#')
	if hashes > maxHashes || !endsWord(rest, hashes) {
		return 0
	}
	return hashes
}

// endsWord tells whether a space or nothing stands at a place of a text.
func endsWord(text string, at int) bool {
	return at == len(text) || text[at] == ' '
}

// titleContent takes a title's own marks off at both ends.
func titleContent(title string) string {
	rest := shallowRest(title)
	content := strings.Trim(rest[countFirst(rest, '#'):], " ")
	open := strings.TrimRight(content, "#")
	if open == "" || strings.HasSuffix(open, " ") {
		return strings.TrimRight(open, " ")
	}
	return content
}

// underlineLevel is 0 for a line that is no underline.
func underlineLevel(line string) int {
	rest := shallowRest(line)
	switch {
	case isRowOf(rest, '='):
		return 1
	case isRowOf(rest, '-'):
		return 2
	}
	return 0
}

// isRowOf tells whether a text is one or more of a byte, and then nothing but spaces.
func isRowOf(text string, b byte) bool {
	n := countFirst(text, b)
	return n > 0 && isBlank(text[n:])
}

func isQuoted(line string) bool {
	return strings.HasPrefix(shallowRest(line), ">")
}

// unquoted tells what stands behind the mark of a quoted line.
func unquoted(line string) string {
	return strings.TrimPrefix(shallowRest(line)[1:], " ")
}

// fence is a line that opens fenced code.
type fence struct {
	mark   byte
	width  int
	indent int
	info   string
}

func fenceOf(line string) (fence, bool) {
	rest := shallowRest(line)
	if rest == "" || rest[0] != '`' && rest[0] != '~' {
		return fence{}, false
	}
	f := fence{mark: rest[0], width: countFirst(rest, rest[0]), indent: indentOf(line)}
	f.info = strings.Trim(rest[f.width:], " ")
	// With a grave in the info the line can be a paragraph's that has a span in it.
	graves := f.mark == '`' && strings.Contains(f.info, "`")
	return f, f.width >= minWidth && !graves
}

func (f fence) closedBy(line string) bool {
	rest := shallowRest(line)
	n := countFirst(rest, f.mark)
	return n >= f.width && isBlank(rest[n:])
}

// item is a line that opens an item of a list.
type item struct {
	kind   byte
	number int
	margin int
	empty  bool
}

func itemOf(line string) (item, bool) {
	rest := shallowRest(line)
	size := markerSize(rest)
	if size == 0 || !endsWord(rest, size) {
		return item{}, false
	}
	behind := rest[size:]
	it := item{kind: rest[size-1], number: markerNumber(rest[:size]), empty: isBlank(behind)}
	spaces := indentOf(behind)
	if it.empty || spaces >= farSpaces {
		spaces = 1
	}
	it.margin = indentOf(line) + size + spaces
	return it, true
}

// markerSize is 0 for a rest without a marker.
func markerSize(rest string) int {
	digits := 0
	for digits < len(rest) && rest[digits] >= '0' && rest[digits] <= '9' {
		digits++
	}
	ends := ".)"
	if digits == 0 {
		ends = "-+*"
	}
	if digits > maxDigits || digits == len(rest) || strings.IndexByte(ends, rest[digits]) < 0 {
		return 0
	}
	return digits + 1
}

func markerNumber(marker string) int {
	number, err := strconv.Atoi(marker[:len(marker)-1])
	if err != nil {
		return noNumber
	}
	return number
}

// breaksParagraph tells whether an item may stand right behind a paragraph's line:
// most numbers there are part of what is being said.
func (it item) breaksParagraph() bool {
	return !it.empty && (it.number == noNumber || it.number == 1)
}
