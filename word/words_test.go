package word

import (
	"slices"
	"testing"
)

func TestWordsOfParts(t *testing.T) { // P1.2
	got := slices.Collect(words([][]byte{{1}, nil, {2, 3, 4}, {5, 6, 7}}))
	if want := []uint16{0x102, 0x304, 0x506, 0x700}; !slices.Equal(got, want) {
		t.Errorf("words: %x, not %x", got, want)
	}
}

// A teller that goes on behind a loop's end panics, so that leaving at each word is enough.
func TestWordsMayBeLeft(t *testing.T) {
	for leave := 1; leave <= 4; leave++ {
		told := 0
		for range words([][]byte{{1, 2, 3}, {4}, {5, 6}, {7}}) {
			if told++; told == leave {
				break
			}
		}
		if told != leave {
			t.Errorf("left at word %d, told %d", leave, told)
		}
	}
}
