// Package rubric reads texts that are marked up, and writes them as pages: see DOC.md.
package rubric

import (
	"strings"

	"rubric/api"
	"rubric/blocks"
	"rubric/pages"
)

// Sheet is a text that is edited.
type Sheet struct{}

// Tree tells how a text is built (P3).
func Tree(text string) ([]api.Node, api.Errno) {
	if len(text) > api.MaxText {
		return nil, api.ErrLong
	}
	// The nodes hold pieces of the text: of a copy, so that they share nothing with it.
	return appendBlocks(nil, blocks.Read(strings.Clone(text)), 0), api.OK
}

// Page writes a text as a page (P4).
func Page(text string) (string, api.Errno) {
	if len(text) > api.MaxText {
		return "", api.ErrLong
	}
	return pages.Write(blocks.Read(text)), api.OK
}

// Titles tells its headings (P5).
func Titles(text string) ([]api.Title, api.Errno) {
	if len(text) > api.MaxText {
		return nil, api.ErrLong
	}
	return appendTitles(nil, blocks.Read(text), 0), api.OK
}

// NewSheet makes a sheet with a text (P6).
func NewSheet(text string) (*Sheet, api.Errno) { return nil, api.OK }

// Edit takes bytes out and puts others in (P6).
func (s *Sheet) Edit(at int, remove int, insert string) api.Errno { return api.OK }

// Text tells the text (P6).
func (s *Sheet) Text() string { return "" }

// Page tells its page (P6).
func (s *Sheet) Page() string { return "" }

// Titles tells its headings (P6).
func (s *Sheet) Titles() []api.Title { return nil }
