package pages

import (
	"rubric/api"
	"rubric/within"
)

// writeContent writes what stands within a heading or a paragraph, between two marks.
func (p *page) writeContent(begin, content, end string) {
	p.writeBetween(begin, within.Read(content), end)
}

func (p *page) writeBetween(begin string, parts within.Parts, end string) {
	p.WriteString(begin)
	for m := parts.First(); m != nil; m = m.Behind() {
		p.writePart(m.Value)
	}
	p.WriteString(end)
}

func (p *page) writePart(part within.Part) {
	switch part.Kind {
	case api.Text:
		p.writeEscaped(part.Text)
	case api.Soft:
		p.WriteByte('\n')
	case api.Break:
		p.WriteString("<br>\n")
	case api.Span:
		p.WriteString("<code>")
		p.writeEscaped(part.Text)
		p.WriteString("</code>")
	case api.Link:
		p.WriteString(`<a href="`)
		p.writeEscaped(part.Info)
		p.writeBetween(`">`, part.Parts, "</a>")
	case api.Image:
		p.WriteString(`<img src="`)
		p.writeEscaped(part.Info)
		p.WriteString(`" alt="`)
		p.writeEscaped(within.Plain(part.Parts))
		p.WriteString(`">`)
	case api.Emph:
		p.writeBetween("<em>", part.Parts, "</em>")
	case api.Strong:
		p.writeBetween("<strong>", part.Parts, "</strong>")
	}
}

// writeEscaped keeps the bytes of a text from being taken for marks of the page.
func (p *page) writeEscaped(text string) {
	for i := range len(text) {
		switch b := text[i]; b {
		case '&':
			p.WriteString("&amp;")
		case '<':
			p.WriteString("&lt;")
		case '>':
			p.WriteString("&gt;")
		case '"':
			p.WriteString("&quot;")
		default:
			p.WriteByte(b)
		}
	}
}
