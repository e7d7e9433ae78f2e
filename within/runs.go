package within

import (
	"rubric/api"
	"rubric/chain"
)

// run is what was seen of a run when it was cut: how long it was, and what it may do.
// A part that is no run may do nothing.
type run struct {
	size   int
	opens  bool
	closes bool
}

// side is what stands beside a run.
type side int

const (
	space side = iota
	mark
	other
)

func sideAt(content string, at int) side {
	switch {
	case at < 0 || at == len(content) || content[at] == ' ' || content[at] == '\n':
		return space
	case isMark(content[at]):
		return mark
	}
	return other
}

func runOf(content string, at, size int) run {
	ahead, behind := sideAt(content, at-1), sideAt(content, at+size)
	right := leansTo(behind, ahead)
	left := leansTo(ahead, behind)
	if content[at] == '*' {
		return run{size, right, left}
	}
	return run{size, right && (!left || ahead == mark), left && (!right || behind == mark)}
}

// leansTo tells whether a run leans to one side, with another side at its back.
func leansTo(front, back side) bool {
	return front != space && (front != mark || back != other)
}

// pair makes emphasis of what stands between runs that go together.
func pair(parts *Parts) {
	for m := parts.First(); m != nil; m = m.Behind() {
		for m.Value.run.closes && m.Value.Text != "" {
			open := openerOf(m)
			if open == nil {
				break
			}
			wrap(parts, open, m)
		}
	}
}

// openerOf tells the nearest run ahead that goes together with one, or nil.
func openerOf(shut *chain.Member[Part]) *chain.Member[Part] {
	for m := shut.Ahead(); m != nil; m = m.Ahead() {
		if m.Value.run.opens && m.Value.Text != "" && m.Value.Text[0] == shut.Value.Text[0] && fit(m.Value.run, shut.Value.run) {
			return m
		}
	}
	return nil
}

// fit keeps runs that could be meant either way from being taken for each other's ends.
func fit(open, shut run) bool {
	if !open.closes && !shut.opens {
		return true
	}
	both := open.size%3 == 0 && shut.size%3 == 0
	return both || (open.size+shut.size)%3 != 0
}

// wrap takes what stands between two runs into one part. The runs in it are text from
// then on: nothing looks for them there.
func wrap(parts *Parts, open, shut *chain.Member[Part]) {
	kind, size := api.Emph, 1
	if len(open.Value.Text) > 1 && len(shut.Value.Text) > 1 {
		kind, size = api.Strong, 2
	}
	open.Value.Text = open.Value.Text[size:]
	shut.Value.Text = shut.Value.Text[size:]
	between := parts.TakeBetween(open, shut)
	join(&between)
	parts.InsertBehind(open, Part{Kind: kind, Parts: between})
}
