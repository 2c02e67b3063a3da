package renew_test

import (
	"fmt"
	"slices"
	"strings"
	"testing"

	"kist/api"
	"kist/blob"
	"kist/cat"
	"kist/jour"
	"kist/label"
	"kist/lib"
	"kist/renew"
)

func write(t *testing.T, l *lib.Library, n int, r api.Rec) api.Place {
	t.Helper()
	b, e := label.Encode(r)
	if e != api.OK {
		t.Fatal(e)
	}
	pos, e := l.Cart(n).Append(b)
	if e != api.OK {
		t.Fatal(e)
	}
	return api.Place{Cart: n, Pos: pos}
}

// store writes a blob's records to the cartridges from 0 on, and returns the note of its entry.
func store(t *testing.T, l *lib.Library, key string, gen int, data string) api.Note {
	t.Helper()
	records, e := blob.Records(key, gen, []byte(data))
	if e != api.OK {
		t.Fatal(e)
	}
	note := api.Note{Kind: api.NotePlaced, Key: key, Gen: gen, Size: len(data), Sum: records[0].Sum}
	for _, r := range records {
		note.Places = append(note.Places, write(t, l, r.Index, r))
	}
	return note
}

func rebuilds(t *testing.T, l *lib.Library, want ...api.Note) {
	t.Helper()
	got := renew.Rebuild(l)
	if !slices.EqualFunc(got, want, jour.Same) {
		t.Errorf("%+v, want %+v", got, want)
	}
	c := cat.New()
	for _, n := range got {
		if e := c.Apply(n); e != api.OK {
			t.Errorf("%+v is refused: %d", n, e)
		}
	}
}

func genNote(gen int) api.Note {
	return api.Note{Kind: api.NoteGen, Gen: gen}
}

func TestRebuildOfNothing(t *testing.T) {
	rebuilds(t, nil)
	rebuilds(t, lib.New(0, 0, 0))
	l := lib.New(3, 9, 0)
	write(t, l, 1, api.Rec{Kind: api.Label, Cart: 1})
	rebuilds(t, l)
}

func TestRebuild(t *testing.T) {
	l := lib.New(12, 99, 0)
	a := store(t, l, "a", 3, "")
	rebuilds(t, l, genNote(3), a)
	b := store(t, l, "b", 7, strings.Repeat("x", 512))
	rebuilds(t, l, genNote(7), a, b)
	old := store(t, l, "b", 5, "older")
	rebuilds(t, l, genNote(7), a, b)
	write(t, l, 11, api.Rec{Kind: api.Tomb, Key: "a", Gen: 8})
	rebuilds(t, l, genNote(8), b)
	l.Cart(9).Lose()
	for i := 9; i < 40; i += 10 {
		b.Places[i] = api.Place{Cart: 0, Pos: 1024}
	}
	rebuilds(t, l, genNote(8), b)
	for pos := range 3 { // three shards of one group of b are gone now, but only two of the older copy
		l.Cart(7).Rot(pos)
		l.Cart(8).Rot(pos)
	}
	old.Places[9] = api.Place{Cart: 0, Pos: 1024}
	rebuilds(t, l, genNote(8), old)
	write(t, l, 11, api.Rec{Kind: api.Tomb, Key: "b", Gen: 7})
	rebuilds(t, l, genNote(8))
}

// TestRebuildSkipsGenZero: no catalog would take such an entry.
func TestRebuildSkipsGenZero(t *testing.T) {
	l := lib.New(12, 99, 0)
	store(t, l, "a", 0, "x")
	rebuilds(t, l)
	b := store(t, l, "b", 1, "x")
	store(t, l, "c", 0, "x")
	rebuilds(t, l, genNote(1), b)
	rebuilds(t, l, genNote(1), b)
}

func TestRebuildOfTheGreatestGen(t *testing.T) {
	l := lib.New(12, 99, 0)
	a := store(t, l, "a", 1<<40, "x")
	rebuilds(t, l, genNote(1<<40), a)
}

func catalog(t *testing.T, notes ...api.Note) *cat.Catalog {
	t.Helper()
	c := cat.New()
	for _, n := range append([]api.Note{genNote(1)}, notes...) {
		if e := c.Apply(n); e != api.OK {
			t.Fatalf("%+v: %d", n, e)
		}
	}
	return c
}

func TestAlike(t *testing.T) {
	put := func(key, data string) api.Note {
		return api.Note{Kind: api.NotePut, Key: key, Data: []byte(data)}
	}
	placed := func(key string, size int, sum string) api.Note {
		return api.Note{Kind: api.NotePlaced, Key: key, Gen: 1, Size: size, Sum: sum, Places: make([]api.Place, 10)}
	}
	moved := placed("a", 5, "s")
	moved.Gen, moved.Places[3] = 2, api.Place{Cart: 4, Pos: 4}
	a, b := placed("a", 5, "s"), placed("b", 6, "s")
	for name, c := range map[string]struct {
		x, y *cat.Catalog
		want bool
	}{
		"empty":                          {catalog(t), catalog(t), true},
		"nil and empty":                  {nil, catalog(t), true},
		"nil and nil":                    {nil, nil, true},
		"nil and an entry":               {nil, catalog(t, a), false},
		"nil and a staged blob":          {nil, catalog(t, put("a", "")), false},
		"equal":                          {catalog(t, a, b), catalog(t, b, a), true},
		"other places and Gen":           {catalog(t, a), catalog(t, genNote(2), moved), true},
		"other work":                     {catalog(t, a), catalog(t, a, api.Note{Kind: api.NoteRetire, Cart: 3}), true},
		"one more entry":                 {catalog(t, a), catalog(t, a, b), false},
		"other keys":                     {catalog(t, a), catalog(t, placed("b", 5, "s")), false},
		"other size":                     {catalog(t, a), catalog(t, placed("a", 6, "s")), false},
		"other digest":                   {catalog(t, a), catalog(t, placed("a", 5, "t")), false},
		"the second differs":             {catalog(t, a, b), catalog(t, a, placed("b", 6, "t")), false},
		"staged blobs":                   {catalog(t, a, put("c", "x")), catalog(t, put("c", "other bytes"), a), true},
		"one more staged blob":           {catalog(t, a, put("c", "x")), catalog(t, a), false},
		"staged here and an entry there": {catalog(t, put("a", "12345")), catalog(t, a), false},
	} {
		if renew.Alike(c.x, c.y) != c.want || renew.Alike(c.y, c.x) != c.want {
			t.Errorf("%s: not %v", name, c.want)
		}
	}
}

func TestRebuildOfManyBlobs(t *testing.T) {
	l := lib.New(10, 999, 0)
	want := []api.Note{genNote(50)}
	for i := range 50 {
		want = append(want, store(t, l, fmt.Sprintf("key %02d", i), i+1, strings.Repeat("d", i)))
	}
	rebuilds(t, l, want...)
}
