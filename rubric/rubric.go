// Package rubric reads texts that are marked up, and writes them as pages: see DOC.md.
package rubric

import (
	"strings"

	"rubric/api"
	"rubric/blocks"
	"rubric/pages"
)

// Sheet is a text that is edited.
type Sheet struct {
	text   string
	pieces []piece
}

// Tree tells how a text is built (P3).
func Tree(text string) ([]api.Node, api.Errno) {
	if len(text) > api.MaxText {
		return nil, api.ErrLong
	}
	// The nodes hold pieces of the text: of a copy, so that they share nothing with it.
	return appendBlocks(nil, blocks.Read(strings.Clone(text)), 0), api.OK
}

// Page writes a text as a page (P4).
func Page(text string) (string, api.Errno) {
	if len(text) > api.MaxText {
		return "", api.ErrLong
	}
	return pages.Write(blocks.Read(text)), api.OK
}

// Titles tells its headings (P5).
func Titles(text string) ([]api.Title, api.Errno) {
	if len(text) > api.MaxText {
		return nil, api.ErrLong
	}
	return appendTitles(nil, blocks.Read(text), 0), api.OK
}

// NewSheet makes a sheet with a text (P6).
func NewSheet(text string) (*Sheet, api.Errno) {
	if len(text) > api.MaxText {
		return nil, api.ErrLong
	}
	s := &Sheet{}
	s.setText(strings.Clone(text))
	return s, api.OK
}

// Edit takes bytes out and puts others in (P6).
func (s *Sheet) Edit(at int, remove int, insert string) api.Errno {
	// The sum of both could pass the greatest int; the difference cannot.
	if at < 0 || remove < 0 || remove > len(s.text)-at {
		return api.ErrPlace
	}
	if len(insert) > api.MaxText-(len(s.text)-remove) {
		return api.ErrLong
	}
	// Joined by +, an insert with nothing beside it would be kept itself, not a copy.
	var text strings.Builder
	text.WriteString(s.text[:at])
	text.WriteString(insert)
	text.WriteString(s.text[at+remove:])
	s.setText(text.String())
	return api.OK
}

// Text tells the text (P6).
func (s *Sheet) Text() string { return s.text }

// Page tells its page (P6).
func (s *Sheet) Page() string {
	var page strings.Builder
	for _, p := range s.pieces {
		page.WriteString(p.page)
	}
	return page.String()
}

// Titles tells its headings (P6).
func (s *Sheet) Titles() []api.Title {
	var list []api.Title
	for _, p := range s.pieces {
		for _, title := range p.titles {
			title.Line += p.begin
			list = append(list, title)
		}
	}
	return list
}
