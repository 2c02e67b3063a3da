package place_test

import (
	"math"
	"math/rand"
	"slices"
	"testing"

	"kist/api"
	"kist/place"
)

func TestPick(t *testing.T) {
	list := []api.Free{{Cart: 0, Room: 3}, {Cart: 1, Room: 5}, {Cart: 2, Room: 5}, {Cart: 3, Room: 0}}
	twice := []api.Free{{Cart: 4, Room: 0}, {Cart: 4, Room: -3}, {Cart: 4, Room: 2}, {Cart: 4, Room: 9}, {Cart: 5, Room: 3}}
	odd := []api.Free{{Cart: math.MaxInt, Room: 1}, {Cart: math.MinInt, Room: 1}, {Cart: -1, Room: math.MaxInt}, {Cart: 7, Room: math.MinInt}, {Cart: 8, Room: -1}}
	for name, c := range map[string]struct {
		list []api.Free
		n    int
		but  []int
		want []int
		ok   bool
	}{
		"two":                       {list, 2, nil, []int{1, 2}, true},
		"two but one":               {list, 2, []int{1}, []int{2, 0}, true},
		"all":                       {list, 3, nil, []int{1, 2, 0}, true},
		"too many":                  {list, 4, nil, nil, false},
		"too many without some":     {list, 2, []int{1, 2}, nil, false},
		"far too many":              {list, math.MaxInt, nil, nil, false},
		"none":                      {list, 0, nil, nil, true},
		"none of nothing":           {nil, 0, nil, nil, true},
		"one of nothing":            {nil, 1, nil, nil, false},
		"negative":                  {list, -1, nil, nil, false},
		"very negative":             {list, math.MinInt, nil, nil, false},
		"but of others":             {list, 1, []int{9, 9, -1, 3}, []int{1}, true},
		"first element with room":   {twice, 2, nil, []int{5, 4}, true},
		"first element and no more": {twice, 3, nil, nil, false},
		"no negative room":          {odd, 3, nil, []int{-1, math.MinInt, math.MaxInt}, true},
		"not four":                  {odd, 4, nil, nil, false},
	} {
		oldList, oldBut := slices.Clone(c.list), slices.Clone(c.but)
		got, ok := place.Pick(c.list, c.n, c.but)
		if ok != c.ok || !slices.Equal(got, c.want) {
			t.Errorf("%s: %v, %v, want %v, %v", name, got, ok, c.want, c.ok)
		}
		if !slices.Equal(c.list, oldList) || !slices.Equal(c.but, oldBut) {
			t.Errorf("%s: an argument was changed", name)
		}
	}
}

// TestPickTakesTheBest compares every choice with all that was left.
func TestPickTakesTheBest(t *testing.T) {
	r := rand.New(rand.NewSource(1))
	for range 500 {
		var list []api.Free
		for _, n := range r.Perm(32)[:r.Intn(32)] {
			list = append(list, api.Free{Cart: n, Room: r.Intn(6)})
		}
		n := r.Intn(12)
		got, ok := place.Pick(list, n, []int{3, 5})
		rest := slices.DeleteFunc(slices.Clone(list), func(f api.Free) bool { return f.Room == 0 || f.Cart == 3 || f.Cart == 5 })
		if ok != (len(rest) >= n) {
			t.Fatal(list, n, got, ok)
		}
		for _, n := range got {
			best := rest[0]
			for _, f := range rest {
				if f.Room > best.Room || f.Room == best.Room && f.Cart < best.Cart {
					best = f
				}
			}
			if best.Cart != n {
				t.Fatal(list, got, "want", best)
			}
			rest = slices.DeleteFunc(rest, func(f api.Free) bool { return f.Cart == n })
		}
	}
}
