// Package chain has what holds values one behind the other: a chain, which is taken
// apart and put together in its midst, and a stack.
package chain

// Chain holds values one behind the other. The zero Chain is an empty one.
type Chain[T any] struct {
	first, last *Member[T]
}

// Member is a place in a chain, with its value. A place stays the same one while
// others come and go around it.
type Member[T any] struct {
	Value T

	ahead, behind *Member[T]
}

// Of makes a chain of values.
func Of[T any](values ...T) Chain[T] {
	var c Chain[T]
	for _, v := range values {
		c.Append(v)
	}
	return c
}

// First is nil, if the chain is empty.
func (c *Chain[T]) First() *Member[T] { return c.first }

// Behind is nil at the end of the chain.
func (m *Member[T]) Behind() *Member[T] { return m.behind }

// Ahead is nil at the beginning of the chain.
func (m *Member[T]) Ahead() *Member[T] { return m.ahead }

// Append lays a value at the end of the chain.
func (c *Chain[T]) Append(value T) *Member[T] {
	m := &Member[T]{Value: value}
	c.join(c.last, m)
	c.join(m, nil)
	return m
}

// InsertBehind lays a value right behind a member of the chain.
func (c *Chain[T]) InsertBehind(at *Member[T], value T) *Member[T] {
	m := &Member[T]{Value: value}
	c.join(m, at.behind)
	c.join(at, m)
	return m
}

// Remove takes a member out of the chain.
func (c *Chain[T]) Remove(m *Member[T]) {
	c.join(m.ahead, m.behind)
	m.ahead, m.behind = nil, nil
}

// TakeBetween takes out what stands between two members of the chain, the first of
// which stands ahead of the second, or between one and the end, if the second is nil.
// What it took out is a chain of its own.
func (c *Chain[T]) TakeBetween(from, to *Member[T]) Chain[T] {
	if from.behind == to {
		return Chain[T]{}
	}
	taken := Chain[T]{first: from.behind, last: c.last}
	if to != nil {
		taken.last = to.ahead
	}
	c.join(from, to)
	taken.first.ahead, taken.last.behind = nil, nil
	return taken
}

// join makes two members neighbours; nil stands for an end of the chain.
func (c *Chain[T]) join(ahead, behind *Member[T]) {
	if ahead != nil {
		ahead.behind = behind
	} else {
		c.first = behind
	}
	if behind != nil {
		behind.ahead = ahead
	} else {
		c.last = ahead
	}
}
