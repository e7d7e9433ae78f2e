package prints

import (
	"math/rand/v2"
	"slices"
	"strings"
	"testing"
)

func TestSameLines(t *testing.T) {
	row := []string{"a", "", "b c", "\xff\x00"}
	again := make([]string, len(row))
	for i, line := range row {
		again[i] = strings.Clone(line)
	}
	if Of(row) != Of(again) || Of(nil) != Of([]string{}) {
		t.Error("P7: the same lines have two fingerprints")
	}
}

func TestOtherLines(t *testing.T) {
	rows := [][]string{
		nil, {""}, {"", ""}, {"\x00"}, {"\x00\x00"}, {"a"}, {"b"}, {"ab"}, {"ba"}, {"a", "b"}, {"b", "a"},
		{"a", ""}, {"", "a"}, {"a", "", "b"}, {"a", " b"}, {"a ", "b"}, {"# a"}, {"# a", "b"}, {"\xff"}, {"\x7f"}, {"\x80"},
	}
	for b := range 256 {
		if b != '\n' {
			rows = append(rows, []string{"x", "y" + string([]byte{byte(b)})}, []string{string([]byte{byte(b)}) + "x"})
		}
	}
	for i, row := range rows {
		for _, other := range rows[:i] {
			if Of(row) == Of(other) && !slices.Equal(row, other) {
				t.Errorf("P7: %q and %q have one fingerprint", row, other)
			}
		}
	}
}

// TestNumbersApart: each of a fingerprint's numbers tells rows apart by itself, in its own way.
func TestNumbersApart(t *testing.T) {
	source := rand.New(rand.NewPCG(1, 2))
	seen := [2]map[uint64]string{{}, {}}
	for range 20000 {
		line := make([]byte, 1+source.IntN(20))
		for i := range line {
			line[i] = "ab #>-"[source.IntN(6)]
		}
		p := Of([]string{string(line)})
		if p[0] == p[1] {
			t.Errorf("P7: of %q both numbers are the same", line)
		}
		for i, known := range seen {
			if other, ok := known[p[i]]; ok && other != string(line) {
				t.Errorf("P7: %q and %q have one number", line, other)
			}
			known[p[i]] = string(line)
		}
	}
}
