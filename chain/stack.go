package chain

// Stack holds values of which the last is used first. The zero Stack is an empty one.
type Stack[T any] struct {
	values []T
}

// Push lays a value on top.
func (s *Stack[T]) Push(value T) {
	s.values = append(s.values, value)
}

// Pop takes the value on top away; of an empty stack it tells false.
func (s *Stack[T]) Pop() (value T, ok bool) {
	if len(s.values) == 0 {
		return value, false
	}
	top := len(s.values) - 1
	value = s.values[top]
	s.values = s.values[:top]
	return value, true
}

// Each lets all values be changed where they lie.
func (s *Stack[T]) Each(change func(*T)) {
	for i := range s.values {
		change(&s.values[i])
	}
}
