package within

import "testing"

// TestRunOf has what stands ahead of a run and behind it: all ways in which it may lean.
func TestRunOf(t *testing.T) {
	type may struct{ opens, closes bool }
	const o, c = true, true
	for _, x := range []struct {
		ahead, behind string
		star, low     may
	}{
		{" ", " ", may{}, may{}},
		{" ", ".", may{opens: o}, may{opens: o}},
		{" ", "a", may{opens: o}, may{opens: o}},
		{".", " ", may{closes: c}, may{closes: c}},
		{".", ".", may{o, c}, may{o, c}},
		{".", "a", may{opens: o}, may{opens: o}},
		{"a", " ", may{closes: c}, may{closes: c}},
		{"a", ".", may{closes: c}, may{closes: c}},
		{"a", "a", may{o, c}, may{}},
	} {
		for _, ahead := range likeSide(x.ahead) {
			for _, behind := range likeSide(x.behind) {
				for _, size := range []int{1, 2, 5} {
					if got, want := madeRun(ahead, '*', size, behind), (run{size, x.star.opens, x.star.closes}); got != want {
						t.Errorf("P3: %d * between %q and %q: %v, want %v", size, ahead, behind, got, want)
					}
					if got, want := madeRun(ahead, '_', size, behind), (run{size, x.low.opens, x.low.closes}); got != want {
						t.Errorf("P3: %d _ between %q and %q: %v, want %v", size, ahead, behind, got, want)
					}
				}
			}
		}
	}
}

// likeSide tells texts that count as the same beside a run.
func likeSide(s string) []string {
	switch s {
	case " ":
		return []string{"", " ", "\n"}
	case ".":
		return []string{".", "!", "[", "]", "\\", "~", "`", "<", "-", "{"}
	}
	return []string{"a", "Z", "0", "9", "\t", "\r", "\v", "\x00", "\x1f", "\x7f", "\x80", "\xa0", "\xff", "é", "\u00a0"}
}

func madeRun(ahead string, mark byte, size int, behind string) run {
	content := ahead
	for range size {
		content += string(mark)
	}
	return runOf(content+behind, len(ahead), size)
}

func TestFit(t *testing.T) {
	for open := 1; open <= 7; open++ {
		for shut := 1; shut <= 7; shut++ {
			if !fit(run{open, true, false}, run{shut, false, true}) {
				t.Errorf("P3: %d that only open and %d that only close do not fit", open, shut)
			}
			want := (open+shut)%3 != 0 || open%3 == 0 && shut%3 == 0
			for _, both := range [][2]run{
				{{open, true, true}, {shut, false, true}},
				{{open, true, false}, {shut, true, true}},
				{{open, true, true}, {shut, true, true}},
			} {
				if fit(both[0], both[1]) != want {
					t.Errorf("P3: %v and %v fit: %v", both[0], both[1], !want)
				}
			}
		}
	}
}
