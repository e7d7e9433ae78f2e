package chain

import "testing"

func TestStack(t *testing.T) {
	var s Stack[string]
	if v, ok := s.Pop(); ok || v != "" {
		t.Errorf("an empty stack gives %q, %v", v, ok)
	}
	s.Push("a")
	s.Push("b")
	if v, ok := s.Pop(); !ok || v != "b" {
		t.Errorf("the last of a and b: %q, %v", v, ok)
	}
	s.Push("c")
	s.Push("d")
	s.Each(func(v *string) { *v += "!" })
	for _, want := range []string{"d!", "c!", "a!"} {
		if v, ok := s.Pop(); !ok || v != want {
			t.Errorf("the last: %q, %v, want %q", v, ok, want)
		}
	}
	if v, ok := s.Pop(); ok || v != "" {
		t.Errorf("a stack that is used up gives %q, %v", v, ok)
	}
	s.Each(func(*string) { t.Errorf("an empty stack has something") })
}
