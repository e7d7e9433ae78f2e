package rubric

import (
	"rubric/api"
	"rubric/blocks"
	"rubric/within"
)

// appendBlocks lays blocks behind a list of nodes, each ahead of what is within it.
func appendBlocks(list []api.Node, row []blocks.Block, depth int) []api.Node {
	for _, b := range row {
		list = append(list, nodeOf(b, depth))
		list = appendContent(list, b, depth+1)
		list = appendBlocks(list, b.Blocks, depth+1)
	}
	return list
}

func nodeOf(b blocks.Block, depth int) api.Node {
	node := api.Node{Depth: depth, Kind: b.Kind, N: b.N, Info: b.Info}
	switch b.Kind {
	case api.Code:
		node.Text = b.Text
	case api.List:
		node.Text = spacing(b)
	}
	return node
}

func spacing(list blocks.Block) string {
	if list.Loose {
		return "loose"
	}
	return "tight"
}

// appendContent lays what stands within a heading or a paragraph.
func appendContent(list []api.Node, b blocks.Block, depth int) []api.Node {
	if b.Kind != api.Heading && b.Kind != api.Paragraph {
		return list
	}
	return appendParts(list, within.Read(b.Text), depth)
}

func appendParts(list []api.Node, parts within.Parts, depth int) []api.Node {
	for m := parts.First(); m != nil; m = m.Behind() {
		p := m.Value
		list = append(list, api.Node{Depth: depth, Kind: p.Kind, Info: p.Info, Text: p.Text})
		list = appendParts(list, p.Parts, depth+1)
	}
	return list
}
