// Package pages writes blocks as a page.
package pages

import (
	"strconv"
	"strings"

	"rubric/api"
	"rubric/blocks"
)

// Write tells the page of blocks, in new memory.
func Write(row []blocks.Block) string {
	var p page
	p.writeBlocks(row, false)
	return p.String()
}

// page is what is written so far.
type page struct {
	strings.Builder
}

// writeBlocks is told whether the blocks are those of a tight list's item.
func (p *page) writeBlocks(row []blocks.Block, tight bool) {
	for _, b := range row {
		p.writeBlock(b, tight)
	}
}

func (p *page) writeBlock(b blocks.Block, tight bool) {
	switch b.Kind {
	case api.Paragraph:
		p.writeParagraph(b, tight)
	case api.Heading:
		p.writeHeading(b)
	case api.Code:
		p.writeCode(b)
	case api.Rule:
		p.WriteString("<hr>\n")
	case api.Quote:
		p.WriteString("<quote>\n")
		p.writeBlocks(b.Blocks, false)
		p.WriteString("</quote>\n")
	case api.List:
		p.writeList(b)
	}
}

func (p *page) writeParagraph(b blocks.Block, tight bool) {
	if tight {
		p.writeContent("", b.Text, "\n")
		return
	}
	p.writeContent("<p>", b.Text, "</p>\n")
}

func (p *page) writeHeading(b blocks.Block) {
	level := strconv.Itoa(b.N)
	p.writeContent("<h"+level+">", b.Text, "</h"+level+">\n")
}

func (p *page) writeCode(b blocks.Block) {
	p.WriteString("<pre><code")
	if b.Info != "" {
		name, _, _ := strings.Cut(b.Info, " ")
		p.WriteString(` class="`)
		p.writeEscaped(name)
		p.WriteByte('"')
	}
	p.WriteByte('>')
	p.writeEscaped(b.Text)
	p.WriteString("</code></pre>\n")
}

func (p *page) writeList(b blocks.Block) {
	name := "ul"
	if b.N >= 0 {
		name = "ol"
	}
	p.WriteString("<" + name)
	if b.N >= 0 && b.N != 1 {
		p.WriteString(` start="` + strconv.Itoa(b.N) + `"`)
	}
	p.WriteString(">\n")
	for _, item := range b.Blocks {
		p.WriteString("<li>\n")
		p.writeBlocks(item.Blocks, !b.Loose)
		p.WriteString("</li>\n")
	}
	p.WriteString("</" + name + ">\n")
}
