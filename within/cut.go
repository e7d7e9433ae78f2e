package within

import (
	"strings"

	"rubric/api"
	"rubric/chain"
)

// cutter cuts a content into its parts, from the left.
type cutter struct {
	content  string
	from     int // where the text begins that is not yet a part
	at       int // the next byte to look at
	parts    Parts
	openings chain.Stack[opening]
}

// opening is a [ or ![ that waits for its ]. As a part it is text, and stays so, if it
// waits in vain.
type opening struct {
	at    *chain.Member[Part]
	image bool
	dead  bool
}

// cut is an automaton: a label says what the next bytes, as many as size, are taken for.
func (c *cutter) cut() {
	var size int
next:
	if c.at == len(c.content) {
		c.skip(0)
		return
	}
	size = 1
	switch c.content[c.at] {
	case '\\':
		goto backslash
	case '`':
		size = countSame(c.rest())
		if c.laySpan(size) {
			goto next
		}
	case ' ':
		goto spaces
	case '\n':
		goto softBreak
	case '<':
		if c.layAddress() {
			goto next
		}
	case '*', '_':
		c.layRun()
		goto next
	case '!', '[', ']':
		if c.layBracket() {
			goto next
		}
	}
text:
	c.at += size
	goto next
backslash:
	if c.comes("\\\n") {
		size = 2
		goto hardBreak
	}
	if escapes(c.rest()) {
		c.skip(1)
	}
	goto text
spaces:
	size = countSame(c.rest())
	if !strings.HasPrefix(c.rest()[size:], "\n") {
		goto text
	}
	size++
	if size > minBreak {
		goto hardBreak
	}
softBreak:
	c.lay(Part{Kind: api.Soft}, size)
	goto next
hardBreak:
	c.lay(Part{Kind: api.Break}, size)
	goto next
}

func (c *cutter) rest() string { return c.content[c.at:] }

func (c *cutter) comes(text string) bool { return strings.HasPrefix(c.rest(), text) }

// skip makes a part of the text so far, and leaves the next bytes out of what follows.
func (c *cutter) skip(size int) {
	if c.from < c.at {
		c.parts.Append(Part{Kind: api.Text, Text: c.content[c.from:c.at]})
	}
	c.at += size
	c.from = c.at
}

// lay makes a part of the next bytes.
func (c *cutter) lay(part Part, size int) *chain.Member[Part] {
	c.skip(size)
	return c.parts.Append(part)
}

// laySpan tells whether the graves at hand, as many as size, open a span.
func (c *cutter) laySpan(size int) bool {
	between, ok := spanned(c.rest(), size)
	if ok {
		c.lay(Part{Kind: api.Span, Text: spanText(between)}, len(between)+2*size)
	}
	return ok
}

// layAddress tells whether the < at hand opens an address.
func (c *cutter) layAddress() bool {
	address, ok := angled(c.rest())
	if ok {
		text := Part{Kind: api.Text, Text: address}
		c.lay(Part{Kind: api.Link, Info: address, Parts: chain.Of(text)}, len(address)+len("<>"))
	}
	return ok
}

func (c *cutter) layRun() {
	size := countSame(c.rest())
	run := runOf(c.content, c.at, size)
	c.lay(Part{Kind: api.Text, Text: c.rest()[:size], run: run}, size)
}

// layBracket tells whether the byte at hand opens or closes anything.
func (c *cutter) layBracket() bool {
	switch {
	case c.comes("]"):
		return c.close()
	case c.comes("["):
		c.open("[")
	case c.comes("!["):
		c.open("![")
	default:
		return false
	}
	return true
}

func (c *cutter) open(text string) {
	at := c.lay(Part{Kind: api.Text, Text: text}, len(text))
	c.openings.Push(opening{at: at, image: text == "!["})
}

// close tells whether the ] at hand makes a link or an image. Its opening is used up
// in either case.
func (c *cutter) close() bool {
	last, ok := c.openings.Pop()
	if !ok || last.dead {
		return false
	}
	address, ok := addressOf(c.content[c.at+1:])
	if !ok {
		return false
	}
	c.skip(len("]()") + len(address))
	made := Part{Kind: api.Image, Info: address, Parts: c.parts.TakeBetween(last.at, nil)}
	settle(&made.Parts)
	if !last.image {
		made.Kind = api.Link
		c.openings.Each(kill)
	}
	last.at.Value = made
	return true
}

// kill keeps links out of links. An image may hold one.
func kill(o *opening) {
	o.dead = o.dead || !o.image
}
