package cat_test

import (
	"bytes"
	"math"
	"math/rand"
	"reflect"
	"slices"
	"strings"
	"testing"

	"kist/api"
	"kist/cat"
	"kist/jour"
)

func put(key, data string) api.Note {
	return api.Note{Kind: api.NotePut, Key: key, Data: []byte(data)}
}

func placed(key string, gen, size int) api.Note {
	n := api.Note{Kind: api.NotePlaced, Key: key, Gen: gen, Size: size, Sum: "sum of " + key}
	for i := range 10 * max(1, (size+127)/128) {
		n.Places = append(n.Places, api.Place{Cart: i % 32, Pos: gen % 1000})
	}
	return n
}

func entry(key string, gen, size int) api.Entry {
	n := placed(key, gen, size)
	return api.Entry{Key: key, Gen: gen, Size: size, Sum: n.Sum, Places: n.Places}
}

func gone(key string, gen int) api.Note { return api.Note{Kind: api.NoteGone, Key: key, Gen: gen} }
func gen(key string, gen int) api.Note  { return api.Note{Kind: api.NoteGen, Key: key, Gen: gen} }
func retire(n int) api.Note             { return api.Note{Kind: api.NoteRetire, Cart: n} }

func tomb(key string, gen, size int) api.Note {
	return api.Note{Kind: api.NoteTomb, Key: key, Gen: gen, Size: size}
}

// after returns the catalog of these notes.
func after(t *testing.T, notes ...api.Note) *cat.Catalog {
	t.Helper()
	c := cat.New()
	for i, n := range notes {
		if e := c.Apply(n); e != api.OK {
			t.Fatalf("note %d %+v: error %d", i, n, e)
		}
	}
	return c
}

// notes checks what Notes returns, and that it leads to the same catalog again.
func notes(t *testing.T, c *cat.Catalog, want ...api.Note) {
	t.Helper()
	if got := c.Notes(); !slices.EqualFunc(got, want, jour.Same) {
		t.Errorf("Notes are %+v, want %+v", got, want)
	}
	if again := after(t, c.Notes()...); !slices.EqualFunc(again.Notes(), want, jour.Same) {
		t.Errorf("the notes lead to %+v, want %+v", again.Notes(), want)
	}
}

// refuses checks that a note is refused and changes nothing.
func refuses(t *testing.T, c *cat.Catalog, n api.Note, want api.Errno) {
	t.Helper()
	before := c.Notes()
	if e := c.Apply(n); e != want {
		t.Errorf("%+v: error %d, want %d", n, e, want)
	}
	if !slices.EqualFunc(before, c.Notes(), jour.Same) {
		t.Errorf("%+v changed the catalog", n)
	}
}

func TestExample(t *testing.T) {
	c := after(t, put("a", "x"), gen("a", 1), gone("a", 2))
	notes(t, c, gen("", 2), tomb("a", 2, 1))
	notes(t, after(t, put("a", "x"), gone("a", 1)), gen("", 1))
}

func TestNew(t *testing.T) {
	c := cat.New()
	_, hasData := c.Data("a")
	_, hasEntry := c.Entry("a")
	if c.Gen() != 0 || c.Has("") || len(c.Keys()) != 0 || len(c.Staged()) != 0 || c.Used() != 0 || hasData || hasEntry ||
		len(c.Entries()) != 0 || len(c.Tombs()) != 0 || c.Retired(0) || len(c.Notes()) != 0 {
		t.Error("a new catalog is not empty")
	}
}

func TestPut(t *testing.T) {
	c := after(t, put("b", "xy"), put("a", ""), put(strings.Repeat("k", 16), strings.Repeat("d", 512)))
	refuses(t, c, put("", "x"), api.ErrForm)
	refuses(t, c, put(strings.Repeat("k", 17), "x"), api.ErrForm)
	refuses(t, c, put("c", strings.Repeat("d", 513)), api.ErrForm)
	refuses(t, c, put("b", strings.Repeat("d", 513)), api.ErrForm)
	refuses(t, c, put("b", "z"), api.ErrExists)
	if got := c.Staged(); !slices.Equal(got, []string{"b", "a", strings.Repeat("k", 16)}) {
		t.Error(got)
	}
	if got := c.Keys(); !slices.Equal(got, []string{"a", "b", strings.Repeat("k", 16)}) {
		t.Error(got)
	}
	if b, ok := c.Data("b"); string(b) != "xy" || !ok || c.Used() != 514 || !c.Has("b") || c.Has("c") {
		t.Error(b, ok, c.Used())
	}
	if b, ok := c.Data("a"); len(b) != 0 || !ok {
		t.Error(b, ok)
	}
	if b, ok := c.Data("c"); b != nil || ok {
		t.Error(b, ok)
	}
	after(t, gen("", 1), placed("a", 1, 0))
	refuses(t, after(t, gen("", 1), placed("a", 1, 0)), put("a", ""), api.ErrExists)
}

func TestPlaced(t *testing.T) {
	c := after(t, gen("", 5), put("a", "x"), put("b", "yz"), placed("a", 5, 1))
	if e, ok := c.Entry("a"); !ok || !reflect.DeepEqual(e, entry("a", 5, 1)) {
		t.Error(e, ok)
	}
	if _, ok := c.Data("a"); ok || !slices.Equal(c.Staged(), []string{"b"}) || c.Used() != 2 || !c.Has("a") || !slices.Equal(c.Keys(), []string{"a", "b"}) {
		t.Error("the blob is still staged:", c.Staged(), c.Used(), c.Keys())
	}
	c.Apply(placed("a", 2, 300)) // replaces, also with an older Gen
	if e, ok := c.Entry("a"); !ok || !reflect.DeepEqual(e, entry("a", 2, 300)) || len(c.Entries()) != 1 {
		t.Error(e, ok)
	}
	for _, n := range []api.Note{
		placed("", 1, 1), placed(strings.Repeat("k", 17), 1, 1), placed("x", 0, 1), placed("x", 6, 1), placed("x", -1, 1), placed("x", math.MaxInt, 1),
		placed("x", 1, -1), placed("x", 1, 513), {Kind: 2, Key: "x", Gen: 1, Size: 128, Places: placed("x", 1, 129).Places},
		{Kind: 2, Key: "x", Gen: 1, Size: 129, Places: placed("x", 1, 128).Places}, {Kind: 2, Key: "x", Gen: 1}, {Kind: 2, Key: "x", Gen: 1, Places: make([]api.Place, 9)},
		{Kind: 2, Key: "x", Gen: 1, Places: make([]api.Place, 11)}, {Kind: 2, Key: "x", Gen: 1, Size: 513, Places: make([]api.Place, 50)}, {Kind: 2, Key: "x", Gen: 1, Size: -1},
	} {
		refuses(t, c, n, api.ErrForm)
	}
	for _, size := range []int{0, 128, 129, 256, 257, 384, 385, 512} {
		if e := c.Apply(placed(strings.Repeat("k", 16), 1, size)); e != api.OK {
			t.Error(size, e)
		}
	}
}

func TestGoneOfAStagedBlob(t *testing.T) {
	c := after(t, put("a", "x"), put("b", "y"), gone("a", 1))
	if c.Has("a") || c.Gen() != 1 || !slices.Equal(c.Staged(), []string{"b"}) || len(c.Tombs()) != 0 {
		t.Error(c.Keys(), c.Gen(), c.Tombs())
	}
	refuses(t, c, gone("a", 2), api.ErrNone)
	refuses(t, c, gone("a", 0), api.ErrNone)
	refuses(t, c, gone("b", 1), api.ErrForm)
	refuses(t, c, gone("b", 0), api.ErrForm)
	refuses(t, c, gone("b", -1), api.ErrForm)
	refuses(t, c, gone("b", 1<<40+1), api.ErrForm)
	if e := c.Apply(gone("b", 1<<40)); e != api.OK || c.Gen() != 1<<40 {
		t.Error(e, c.Gen())
	}
}

// TestGoneLeavesATombstone where shards may be on cartridges.
func TestGoneLeavesATombstone(t *testing.T) {
	c := after(t, put("a", "x"), put("b", "y"), gen("b", 3), gen("", 4), put("c", ""), placed("c", 4, 0), gone("b", 5), gone("a", 6), gone("c", 7))
	notes(t, c, gen("", 7), tomb("b", 5, 1), tomb("c", 7, 1))
	if got := c.Tombs(); !slices.EqualFunc(got, []api.Note{tomb("b", 5, 1), tomb("c", 7, 1)}, jour.Same) {
		t.Error(got)
	}
}

// TestAKeyIsBegunUntilItIsDeleted: a blob that is put again is not begun.
func TestAKeyIsBegunUntilItIsDeleted(t *testing.T) {
	c := after(t, put("a", "x"), gen("a", 1), gone("a", 2), put("a", "y"))
	notes(t, c, put("a", "y"), gen("", 2), tomb("a", 2, 1))
	c.Apply(gone("a", 3))
	notes(t, c, gen("", 3), tomb("a", 2, 1))
}

func TestGen(t *testing.T) {
	c := after(t, put("a", "x"), gen("", 3))
	refuses(t, c, gen("", 3), api.ErrForm)
	refuses(t, c, gen("a", 2), api.ErrForm)
	refuses(t, c, gen("nobody", 3), api.ErrForm)
	refuses(t, c, gen("", 1<<40+1), api.ErrForm)
	refuses(t, c, gen("", math.MinInt), api.ErrForm)
	refuses(t, c, gen("nobody", 4), api.ErrNone)
	if c.Gen() != 3 {
		t.Error(c.Gen())
	}
	for _, n := range []api.Note{gen("a", 4), gen("a", 6), gen("", 9)} {
		if e := c.Apply(n); e != api.OK || c.Gen() != n.Gen {
			t.Error(n, e, c.Gen())
		}
	}
	notes(t, c, put("a", "x"), gen("a", 6), gen("", 9))
	c.Apply(gen("", 1<<40))
	refuses(t, c, gen("", 1<<40+1), api.ErrForm)
	refuses(t, c, gone("a", 1<<40+1), api.ErrForm)
}

func TestRetire(t *testing.T) {
	c := after(t, retire(31), retire(0), retire(7), retire(31))
	for _, n := range []int{-1, 32, math.MaxInt, math.MinInt} {
		refuses(t, c, retire(n), api.ErrForm)
		if c.Retired(n) {
			t.Error(n, "is retired")
		}
	}
	for n := range 32 {
		if c.Retired(n) != slices.Contains([]int{0, 7, 31}, n) {
			t.Error(n, c.Retired(n))
		}
	}
	notes(t, c, retire(0), retire(7), retire(31))
}

func TestTombs(t *testing.T) {
	c := after(t, gen("", 5), tomb("b", 5, 1), tomb("a", 1, 1), tomb("b", 4, 1))
	for _, n := range []api.Note{
		tomb("b", 5, 1), tomb("", 1, 1), tomb(strings.Repeat("k", 17), 1, 1), tomb("c", 0, 1), tomb("c", 6, 1), tomb("c", -1, 1),
		tomb("c", 1, 0), tomb("b", 3, 0), tomb("b", 5, 2), tomb("b", 5, -1), tomb("c", 1, 2),
	} {
		refuses(t, c, n, api.ErrForm)
	}
	notes(t, c, gen("", 5), tomb("b", 5, 1), tomb("a", 1, 1), tomb("b", 4, 1))
	c.Apply(tomb("a", 1, 0))
	notes(t, c, gen("", 5), tomb("b", 5, 1), tomb("b", 4, 1))
	refuses(t, c, tomb("a", 1, 0), api.ErrForm)
	if e := c.Apply(tomb(strings.Repeat("k", 16), 5, 1)); e != api.OK {
		t.Error(e)
	}
}

func TestOtherKinds(t *testing.T) {
	c := after(t, put("a", "x"))
	for _, kind := range []int{0, 7, -1, math.MaxInt, math.MinInt} {
		n := put("b", "x")
		n.Kind = kind
		refuses(t, c, n, api.ErrForm)
	}
}

// TestFieldsThatAreNotMentioned do not matter.
func TestFieldsThatAreNotMentioned(t *testing.T) {
	odd := func(n api.Note) api.Note {
		rest := api.Note{Gen: -7, Cart: 99, Data: make([]byte, 999), Sum: "odd", Size: -9, Places: make([]api.Place, 3), Key: "odd"}
		switch n.Kind {
		case api.NotePut:
			rest.Key, rest.Data = n.Key, n.Data
		case api.NotePlaced:
			rest.Key, rest.Gen, rest.Size, rest.Sum, rest.Places = n.Key, n.Gen, n.Size, n.Sum, n.Places
		case api.NoteRetire:
			rest.Cart = n.Cart
		case api.NoteTomb:
			rest.Key, rest.Gen, rest.Size = n.Key, n.Gen, n.Size
		default:
			rest.Key, rest.Gen = n.Key, n.Gen
		}
		rest.Kind = n.Kind
		return rest
	}
	plain := []api.Note{put("a", "x"), put("b", "y"), gen("a", 1), gen("", 2), placed("b", 2, 1), retire(4), gone("a", 3), tomb("z", 1, 1), tomb("a", 3, 0)}
	var odds []api.Note
	for _, n := range plain {
		odds = append(odds, odd(n))
	}
	notes(t, after(t, odds...), after(t, plain...).Notes()...)
}

func TestOrderOfNotes(t *testing.T) {
	c := after(t, put("z", "1"), put("y", "2"), put("x", "3"), put("b", ""), put("a", ""), gen("x", 1), gen("z", 2), gen("b", 3), gen("a", 4),
		placed("b", 3, 0), placed("a", 4, 0), retire(9), retire(2), gen("", 6), tomb("t", 5, 1), tomb("s", 6, 1))
	notes(t, c,
		put("z", "1"), put("y", "2"), put("x", "3"), gen("x", 1), gen("z", 2), gen("", 6), placed("a", 4, 0), placed("b", 3, 0),
		tomb("t", 5, 1), tomb("s", 6, 1), retire(2), retire(9))
	c = after(t, put("a", "1"), gen("a", 3))
	notes(t, c, put("a", "1"), gen("a", 3)) // no Gen alone: it is not above
}

func TestEntriesAreSorted(t *testing.T) {
	c := after(t, gen("", 9), placed("b", 1, 1), placed("a\xff", 2, 1), placed("B", 3, 1), placed("a", 4, 1), put("aa", ""))
	if got := c.Entries(); !reflect.DeepEqual(got, []api.Entry{entry("B", 3, 1), entry("a", 4, 1), entry("a\xff", 2, 1), entry("b", 1, 1)}) {
		t.Errorf("%+v", got)
	}
	if got := c.Keys(); !slices.Equal(got, []string{"B", "a", "aa", "a\xff", "b"}) {
		t.Error(got)
	}
	if e, ok := c.Entry("aa"); ok || !reflect.DeepEqual(e, api.Entry{}) {
		t.Error(e, ok)
	}
}

// TestMemory: neither arguments nor results are part of the catalog.
func TestMemory(t *testing.T) {
	staged, laid := put("a", "xyz"), placed("b", 1, 1)
	c := after(t, gen("", 1), staged, laid)
	want := []api.Note{put("a", "xyz"), gen("", 1), placed("b", 1, 1)}
	spoil := func(data []byte, places []api.Place) {
		for i := range data {
			data[i]++
		}
		for i := range places {
			places[i].Pos++
		}
	}
	spoil(staged.Data, laid.Places)
	data, _ := c.Data("a")
	e, _ := c.Entry("b")
	spoil(data, e.Places)
	spoil(nil, c.Entries()[0].Places)
	for _, n := range c.Notes() {
		spoil(n.Data, n.Places)
	}
	c.Staged()[0], c.Keys()[0] = "z", "z"
	if got := c.Notes(); !slices.EqualFunc(got, want, jour.Same) {
		t.Errorf("%+v, want %+v", got, want)
	}
}

// TestACatalogThatNewDidNotMake is an empty one.
func TestACatalogThatNewDidNotMake(t *testing.T) {
	var c cat.Catalog
	for _, n := range []api.Note{gen("", 1), placed("a", 1, 0), retire(3), put("b", "x"), gen("b", 2)} {
		if e := c.Apply(n); e != api.OK {
			t.Errorf("%+v: %d", n, e)
		}
	}
	notes(t, &c, put("b", "x"), gen("b", 2), placed("a", 1, 0), retire(3))
}

func TestNilCatalog(t *testing.T) {
	var c *cat.Catalog
	data, hasData := c.Data("a")
	e, hasEntry := c.Entry("a")
	if c.Apply(put("a", "x")) != api.ErrArg || c.Gen() != 0 || c.Has("a") || len(c.Keys()) != 0 || len(c.Staged()) != 0 || c.Used() != 0 ||
		data != nil || hasData || e.Places != nil || hasEntry || len(c.Entries()) != 0 || len(c.Tombs()) != 0 || c.Retired(0) || len(c.Notes()) != 0 {
		t.Error("a nil catalog does something")
	}
}

// TestRandomNotes: whatever was applied, Notes leads to the same catalog, and no key is both staged and an entry.
func TestRandomNotes(t *testing.T) {
	r := rand.New(rand.NewSource(1))
	for range 40 {
		c := cat.New()
		for range 120 {
			key := string("abcdefgh"[r.Intn(8)])
			next := c.Gen() + r.Intn(3)
			c.Apply([]api.Note{
				put(key, strings.Repeat("x", r.Intn(5))), placed(key, 1+r.Intn(c.Gen()+1), r.Intn(512)), gone(key, next), gen(key, next),
				gen("", next), retire(r.Intn(33)), tomb(key, r.Intn(c.Gen()+1), r.Intn(2)),
			}[r.Intn(7)])
		}
		again := cat.New()
		for _, n := range c.Notes() {
			if e := again.Apply(n); e != api.OK {
				t.Fatalf("%+v: error %d", n, e)
			}
		}
		alike(t, c, again)
	}
}

func alike(t *testing.T, a, b *cat.Catalog) {
	t.Helper()
	if !slices.Equal(a.Keys(), b.Keys()) || !slices.Equal(a.Staged(), b.Staged()) || a.Used() != b.Used() || a.Gen() != b.Gen() ||
		!reflect.DeepEqual(a.Entries(), b.Entries()) || !slices.EqualFunc(a.Tombs(), b.Tombs(), jour.Same) || !slices.EqualFunc(a.Notes(), b.Notes(), jour.Same) {
		t.Fatalf("%+v\n%+v", a.Notes(), b.Notes())
	}
	for n := range 32 {
		if a.Retired(n) != b.Retired(n) {
			t.Fatal(n, "is retired in one of them")
		}
	}
	if keys := len(a.Staged()) + len(a.Entries()); keys != len(a.Keys()) {
		t.Fatal("a key is staged and an entry")
	}
	for _, key := range a.Staged() {
		x, _ := a.Data(key)
		if y, _ := b.Data(key); !bytes.Equal(x, y) {
			t.Fatal(key, x, y)
		}
	}
}
