package chain

import (
	"slices"
	"testing"
)

// valuesOf reads a chain from its first member on, and checks that it reads the same from its last one on.
func valuesOf(t *testing.T, c Chain[int]) []int {
	t.Helper()
	var there, back []int
	for m := c.First(); m != nil; m = m.Behind() {
		there = append(there, m.Value)
	}
	for m := c.last; m != nil; m = m.Ahead() {
		back = append(back, m.Value)
	}
	slices.Reverse(back)
	if !slices.Equal(there, back) {
		t.Errorf("from the first on: %v, from the last on: %v", there, back)
	}
	return there
}

func check(t *testing.T, what string, c Chain[int], want ...int) {
	t.Helper()
	if got := valuesOf(t, c); !slices.Equal(got, want) {
		t.Errorf("%s: %v, want %v", what, got, want)
	}
}

// at tells the member of a chain at a place, nil behind the last one.
func at(c *Chain[int], place int) *Member[int] {
	m := c.First()
	for range place {
		m = m.Behind()
	}
	return m
}

func TestChainAppend(t *testing.T) {
	var c Chain[int]
	check(t, "an empty chain", c)
	for i := range 4 {
		if m := c.Append(i); m.Value != i || m.Behind() != nil {
			t.Errorf("the member that was appended: %v", m)
		}
	}
	check(t, "four values", c, 0, 1, 2, 3)
	check(t, "no values", Of[int]())
	check(t, "one value", Of(7), 7)
	check(t, "three values", Of(7, 7, 8), 7, 7, 8)
}

func TestChainInsertBehind(t *testing.T) {
	c := Of(1)
	first := c.First()
	last := c.InsertBehind(first, 2)
	check(t, "behind the only one", c, 1, 2)
	c.InsertBehind(last, 3)
	check(t, "behind the last one", c, 1, 2, 3)
	if m := c.InsertBehind(first, 4); m.Ahead() != first || m.Behind() != last {
		t.Errorf("the new member is not between its neighbours")
	}
	check(t, "in the midst", c, 1, 4, 2, 3)
	c.Append(5)
	check(t, "and one at the end", c, 1, 4, 2, 3, 5)
}

func TestChainRemove(t *testing.T) {
	for place, want := range [][]int{{2, 3}, {1, 3}, {1, 2}} {
		c := Of(1, 2, 3)
		m := at(&c, place)
		c.Remove(m)
		check(t, "one taken out", c, want...)
		if m.Ahead() != nil || m.Behind() != nil {
			t.Errorf("a member that was taken out still has neighbours")
		}
		c.Append(4)
		check(t, "and one put in", c, append(want, 4)...)
	}
	c := Of(1)
	c.Remove(c.First())
	check(t, "the only one taken out", c)
	c.Append(2)
	check(t, "and another put in", c, 2)
}

func TestChainTakeBetween(t *testing.T) {
	for _, x := range []struct {
		from, to    int
		left, taken []int
	}{
		{0, 4, []int{0}, []int{1, 2, 3}},
		{0, 3, []int{0, 3}, []int{1, 2}},
		{0, 2, []int{0, 2, 3}, []int{1}},
		{1, 3, []int{0, 1, 3}, []int{2}},
		{2, 4, []int{0, 1, 2}, []int{3}},
		{1, 2, []int{0, 1, 2, 3}, nil},
		{3, 4, []int{0, 1, 2, 3}, nil},
	} {
		c := Of(0, 1, 2, 3)
		taken := c.TakeBetween(at(&c, x.from), at(&c, x.to))
		check(t, "what is left", c, x.left...)
		check(t, "what was taken", taken, x.taken...)
		c.Append(8)
		taken.Append(9)
		check(t, "what is left, and one more", c, append(x.left, 8)...)
		check(t, "what was taken, and one more", taken, append(x.taken, 9)...)
	}
}
