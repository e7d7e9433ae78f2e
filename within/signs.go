package within

import "strings"

const (
	// minBreak is how many spaces ahead of a newline make a break of it.
	minBreak = 2
	// minScheme and maxScheme are how many letters an address between < and > begins
	// with, at least and at most.
	minScheme = 2
	maxScheme = 8
)

func isMark(b byte) bool {
	return b > ' ' && b <= '~' && !isLetter(b) && (b < '0' || b > '9')
}

func isLetter(b byte) bool {
	return b >= 'a' && b <= 'z' || b >= 'A' && b <= 'Z'
}

// escapes tells whether the backslash that a text begins with takes the meaning off a mark.
func escapes(text string) bool {
	return len(text) > 1 && isMark(text[1])
}

// countSame tells how often the first byte of a text stands there, which is a mark or a space.
func countSame(text string) int {
	return len(text) - len(strings.TrimLeft(text, text[:1]))
}

// spanned tells what stands between the graves that a text begins with and the next that
// are just as many.
func spanned(text string, size int) (between string, ok bool) {
	for at := size; at < len(text); {
		if text[at] != '`' {
			at++
			continue
		}
		graves := countSame(text[at:])
		if graves == size {
			return text[size:at], true
		}
		at += graves
	}
	return "", false
}

// spanText takes one space off at both ends: it is what lets a span begin or end with a grave.
func spanText(between string) string {
	text := strings.ReplaceAll(between, "\n", " ")
	spaced := strings.HasPrefix(text, " ") && strings.HasSuffix(text, " ")
	if spaced && strings.Trim(text, " ") != "" {
		return text[1 : len(text)-1]
	}
	return text
}

// angled tells the address between the < that a text begins with and a >.
func angled(text string) (address string, ok bool) {
	colon := 1
	for colon < len(text) && isLetter(text[colon]) {
		colon++
	}
	letters := colon - 1
	if letters < minScheme || letters > maxScheme || !strings.HasPrefix(text[colon:], ":") {
		return "", false
	}
	end := colon + addressSize(text[colon:], "<>")
	return text[1:end], strings.HasPrefix(text[end:], ">")
}

// addressOf tells the address between the ( that a text begins with, if it does, and a ).
func addressOf(text string) (address string, ok bool) {
	if !strings.HasPrefix(text, "(") {
		return "", false
	}
	end := 1 + addressSize(text[1:], "()<>")
	return text[1:end], strings.HasPrefix(text[end:], ")")
}

// addressSize tells how many bytes a text begins with that may stand in an address.
func addressSize(text, others string) int {
	n := 0
	for n < len(text) && text[n] > ' ' && strings.IndexByte(others, text[n]) < 0 {
		n++
	}
	return n
}
