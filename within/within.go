// Package within tells what stands within a heading or a paragraph.
package within

import (
	"rubric/api"
	"rubric/chain"
)

// Part is a piece of a content.
type Part struct {
	Kind  api.Kind
	Info  string // the address of a link or an image
	Text  string // of a text or a span
	Parts Parts  // what is within a link, an image, or what is emphasized

	run run
}

// Parts stand one behind the other.
type Parts = chain.Chain[Part]

// Read tells what a content is made of.
func Read(content string) Parts {
	c := cutter{content: content}
	c.cut()
	settle(&c.parts)
	return c.parts
}

// settle makes parts what they stay: from then on their runs are text.
func settle(parts *Parts) {
	pair(parts)
	join(parts)
}

// join makes one text of those that stand side by side, and none of those without bytes.
func join(parts *Parts) {
	for m := parts.First(); m != nil; {
		next := m.Behind()
		switch {
		case m.Value.Kind != api.Text:
		case m.Value.Text == "":
			parts.Remove(m)
		case next != nil && next.Value.Kind == api.Text:
			next.Value.Text = m.Value.Text + next.Value.Text
			parts.Remove(m)
		}
		m = next
	}
}
