package rubric

import (
	"rubric/api"
	"rubric/blocks"
	"rubric/within"
)

// appendTitles lays the titles of blocks behind a list; line is where that begins
// which they stand in.
func appendTitles(list []api.Title, row []blocks.Block, line int) []api.Title {
	for _, b := range row {
		begin := line + b.Line
		if b.Kind == api.Heading {
			list = append(list, api.Title{Level: b.N, Text: within.Plain(within.Read(b.Text)), Line: begin})
		}
		list = appendTitles(list, b.Blocks, begin)
	}
	return list
}
