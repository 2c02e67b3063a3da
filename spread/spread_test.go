package spread_test

import (
	"slices"
	"testing"

	"kist/api"
	"kist/cat"
	"kist/spread"
)

func TestWell(t *testing.T) {
	c := cat.New()
	for _, n := range []int{20, 21} {
		if e := c.Apply(api.Note{Kind: api.NoteRetire, Cart: n}); e != api.OK {
			t.Fatal(e)
		}
	}
	e := api.Entry{Key: "a"}
	for i := range 20 { // both groups on the same ten cartridges
		e.Places = append(e.Places, api.Place{Cart: i % 10, Pos: i})
	}
	if !spread.Well(e, c) || !spread.Well(e, nil) || !spread.Well(api.Entry{}, c) {
		t.Error("not well")
	}
	for i := range 20 {
		for _, n := range []int{20, 21, (i + 1) % 10, (i + 9) % 10} {
			changed := api.Entry{Places: slices.Clone(e.Places)}
			changed.Places[i].Cart = n
			if spread.Well(changed, c) {
				t.Error("well with place", i, "on cartridge", n)
			}
		}
		changed := api.Entry{Places: slices.Clone(e.Places)}
		changed.Places[i].Cart = 22
		if !spread.Well(changed, c) {
			t.Error("not well with place", i, "on a cartridge of its own")
		}
	}
}
