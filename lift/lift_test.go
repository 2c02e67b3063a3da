package lift_test

import (
	"math"
	"math/rand"
	"slices"
	"testing"

	"kist/api"
	"kist/lift"
)

const (
	lowest  = math.MinInt
	highest = math.MaxInt
)

func ask(cart, pos, born int) api.Ask {
	return api.Ask{Job: 1, Op: api.Read, Cart: cart, Pos: pos, Born: born}
}

func TestNext(t *testing.T) {
	three := []api.Ask{ask(1, 5, 3), ask(1, 2, 3), ask(1, 9, 3)}
	ages := []api.Ask{ask(1, 5, 7), ask(2, 2, 4), ask(3, 9, 4)}
	equal := []api.Ask{ask(1, 6, 0), ask(1, 5, 0), ask(1, 5, 0), ask(1, 1, 0), ask(1, 1, 0)}
	odd := []api.Ask{ask(1, 3, highest), ask(2, 4, lowest)}
	head := func(cart, pos int) []api.Head { return []api.Head{{Cart: cart, Pos: pos}} }
	for name, c := range map[string]struct {
		list     []api.Ask
		heads    []api.Head
		now, age int
		want     int
	}{
		"above the head":                   {three, head(1, 4), 8, 6, 0},
		"at the head":                      {three, head(1, 9), 8, 6, 2},
		"behind the last":                  {three, head(1, 10), 8, 6, 1},
		"below the first":                  {three, head(1, 0), 8, 6, 1},
		"overdue":                          {three, head(1, 0), 9, 6, 0},
		"not yet overdue":                  {three, head(1, 0), 8, 6, 1},
		"the oldest one is overdue":        {ages, head(1, 0), 9, 5, 1},
		"a younger one would be overdue":   {ages, head(1, 0), 9, 6, 0},
		"age 0":                            {ages, head(1, 0), 4, 0, 1},
		"negative age":                     {ages, head(1, 0), 4, lowest, 1},
		"born later than now":              {ages, head(1, 0), 3, 0, 0},
		"born later, negative age":         {ages, head(1, 0), 3, lowest, 0},
		"no head":                          {ages, nil, 5, 9, 1},
		"no head at a request":             {ages, head(7, 0), 5, 9, 1},
		"the first head that meets one":    {ages, []api.Head{{Cart: 7}, {Cart: 3}, {Cart: 1}}, 5, 9, 2},
		"a nearer head comes later":        {three, []api.Head{{Cart: 1, Pos: 8}, {Cart: 1, Pos: 5}}, 5, 9, 2},
		"the first of equal ones":          {equal, head(1, 4), 0, 9, 1},
		"the first of equal ones from 0":   {equal, head(1, 9), 0, 9, 3},
		"a difference beyond an int":       {odd, head(1, 0), highest, highest, 1},
		"a difference beyond an int, -2":   {odd, head(1, 0), -2, highest, 0},
		"a difference of the greatest age": {odd, head(1, 0), -1, highest, 1},
		"extreme positions":                {[]api.Ask{ask(1, lowest, 0), ask(1, highest, 0)}, head(1, lowest), 0, 9, 0},
		"extreme positions from above":     {[]api.Ask{ask(1, lowest, 0), ask(1, highest, 0)}, head(1, lowest+1), 0, 9, 1},
	} {
		old := slices.Clone(c.list)
		if got, ok := lift.Next(c.list, c.heads, c.now, c.age); got != c.want || !ok {
			t.Errorf("%s: %d, %v, want %d", name, got, ok, c.want)
		}
		if !slices.Equal(c.list, old) {
			t.Errorf("%s: the list was changed", name)
		}
	}
}

func TestNoRequests(t *testing.T) {
	for _, list := range [][]api.Ask{nil, {}} {
		if got, ok := lift.Next(list, []api.Head{{Cart: 1}}, 9, 0); got != 0 || ok {
			t.Error(got, ok)
		}
	}
}

// slowMet is the request that a head meets first, by the words of the document.
func slowMet(list []api.Ask, h api.Head) int {
	smallest := func(from int) int {
		best := -1
		for i, a := range list {
			if a.Cart == h.Cart && a.Pos >= from && (best < 0 || a.Pos < list[best].Pos) {
				best = i
			}
		}
		return best
	}
	if i := smallest(h.Pos); i >= 0 {
		return i
	}
	return smallest(lowest)
}

func TestRandomRequests(t *testing.T) {
	r := rand.New(rand.NewSource(1))
	for range 5000 {
		var list []api.Ask
		for range 1 + r.Intn(12) {
			list = append(list, ask(r.Intn(4), r.Intn(8), r.Intn(6)))
		}
		var heads []api.Head
		for range r.Intn(4) {
			heads = append(heads, api.Head{Cart: r.Intn(5), Pos: r.Intn(9)})
		}
		now, age := r.Intn(12), r.Intn(8)-1
		want := 0
		for i, a := range list {
			if a.Born < list[want].Born {
				want = i
			}
		}
		if born := list[want].Born; born > now || now-born < age {
			for _, h := range heads {
				if i := slowMet(list, h); i >= 0 {
					want = i
					break
				}
			}
		}
		if got, ok := lift.Next(list, heads, now, age); got != want || !ok {
			t.Fatal(list, heads, now, age, "gives", got, "want", want)
		}
	}
}
