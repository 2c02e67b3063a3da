package fit_test

import (
	"math"
	"strings"
	"testing"

	"kist/fit"
)

func TestIn(t *testing.T) {
	for _, c := range []struct {
		n, low, high int
		want         bool
	}{
		{0, 0, 0, true}, {-1, 0, 5, false}, {0, 0, 5, true}, {5, 0, 5, true}, {6, 0, 5, false}, {3, 5, 0, false},
		{math.MinInt, math.MinInt, math.MaxInt, true}, {math.MaxInt, math.MinInt, math.MaxInt, true},
	} {
		if got := fit.In(c.n, c.low, c.high); got != c.want {
			t.Error(c, got)
		}
	}
}

func TestKey(t *testing.T) {
	for length, want := range map[int]bool{0: false, 1: true, 16: true, 17: false} {
		if got := fit.Key(strings.Repeat("\xff", length)); got != want {
			t.Error(length, got)
		}
	}
}

func TestGroups(t *testing.T) {
	for size, want := range map[int]int{
		-1: 0, 0: 1, 1: 1, 128: 1, 129: 2, 256: 2, 257: 3, 384: 3, 385: 4, 512: 4, 513: 0, math.MaxInt: 0, math.MinInt: 0,
	} {
		if got := fit.Groups(size); got != want {
			t.Error(size, got)
		}
	}
}
