package ring

import "testing"

func TestNumber(t *testing.T) {
	for text, want := range map[string]uint32{"a": 723832900, "0:0": 283805271} {
		if n := Number(text); n != want {
			t.Errorf("Number(%q) = %d, want %d", text, n, want)
		}
	}
}
