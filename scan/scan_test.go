package scan_test

import (
	"bytes"
	"math/rand"
	"reflect"
	"slices"
	"strings"
	"testing"

	"kist/api"
	"kist/label"
	"kist/lib"
	"kist/scan"
)

var nowhere = api.Place{Cart: 0, Pos: 1024}

func digest(c string) string {
	return strings.Repeat(c, 32)
}

func shard(key string, gen, size int, sum string, group, index int) api.Rec {
	return api.Rec{
		Kind: api.Shard, Key: key, Gen: gen, Group: group, Groups: max(1, (size+127)/128), Index: index, Size: size,
		Sum: digest(sum), Data: bytes.Repeat([]byte("d"), 16),
	}
}

func at(n, pos int, r api.Rec) api.Found {
	return api.Found{At: api.Place{Cart: n, Pos: pos}, Rec: r}
}

// shards finds the shards of these indices of every group at cartridge index, position 10 gen plus group.
func shards(key string, gen, size int, sum string, indices ...int) []api.Found {
	var list []api.Found
	for group := range max(1, (size+127)/128) {
		for _, i := range indices {
			list = append(list, at(i, 10*gen+group, shard(key, gen, size, sum, group, i)))
		}
	}
	return list
}

func all() []int {
	return []int{0, 1, 2, 3, 4, 5, 6, 7, 8, 9}
}

func tomb(key string, gen int) api.Found {
	return at(30, 7, api.Rec{Kind: api.Tomb, Key: key, Gen: gen})
}

func best(t *testing.T, list []api.Found, gen int, want ...api.Entry) {
	t.Helper()
	old := slices.Clone(list)
	entries, greatest := scan.Best(list)
	if greatest != gen || len(entries) != len(want) {
		t.Errorf("Best = %+v, %d, want %+v, %d", entries, greatest, want, gen)
		return
	}
	for i, e := range entries {
		if !reflect.DeepEqual(e, want[i]) {
			t.Errorf("entry %d is %+v, want %+v", i, e, want[i])
		}
	}
	if !reflect.DeepEqual(list, old) {
		t.Error("Best changed its argument")
	}
}

// entry is the entry of what shards finds.
func entry(key string, gen, size int, sum string, indices ...int) api.Entry {
	e := api.Entry{Key: key, Gen: gen, Size: size, Sum: digest(sum)}
	for group := range max(1, (size+127)/128) {
		for i := range 10 {
			place := nowhere
			if slices.Contains(indices, i) {
				place = api.Place{Cart: i, Pos: 10*gen + group}
			}
			e.Places = append(e.Places, place)
		}
	}
	return e
}

func TestExamples(t *testing.T) {
	list := shards("a", 3, 0, "s", all()...)
	best(t, append(slices.Clone(list), tomb("a", 2)), 3, entry("a", 3, 0, "s", all()...))
	best(t, append(slices.Clone(list), tomb("a", 3)), 3)
	best(t, list[:7], 3)
	best(t, list[:8], 3, entry("a", 3, 0, "s", all()[:8]...))
	best(t, nil, 0)
}

func TestTombstones(t *testing.T) {
	list := shards("a", 3, 0, "s", all()...)
	kept := entry("a", 3, 0, "s", all()...)
	best(t, append([]api.Found{tomb("a", 4), tomb("a", 1)}, list...), 4)
	best(t, append([]api.Found{tomb("a", 1), tomb("a", 4)}, list...), 4)
	best(t, append([]api.Found{tomb("b", 9)}, list...), 9, kept)
	unfit := tomb("a", 9)
	unfit.At.Cart = 32
	best(t, append([]api.Found{unfit}, list...), 3, kept)
	zero := shards("z", 0, 0, "s", all()...)
	best(t, zero, 0, entry("z", 0, 0, "s", all()...))
	best(t, append(zero, tomb("z", 0)), 0)
	// an older copy is deleted, a newer one of the same key is not
	both := append(shards("a", 2, 0, "s", all()...), shards("a", 5, 0, "s", 0, 1, 2, 3, 4, 5, 6, 7)...)
	best(t, append(both, tomb("a", 2)), 5, entry("a", 5, 0, "s", 0, 1, 2, 3, 4, 5, 6, 7))
}

func TestLabelsAreNoBlobs(t *testing.T) {
	best(t, []api.Found{at(0, 0, api.Rec{Kind: api.Label, Cart: 0})}, 0)
}

// TestBestCopy checks each of the rules that make a copy the best, against those that come later.
func TestBestCopy(t *testing.T) {
	nine, eight := all()[:9], all()[:8]
	for name, c := range map[string]struct {
		worse []api.Found
		want  []api.Found
		entry api.Entry
	}{
		"places before Gen":          {shards("a", 9, 0, "a", eight...), shards("a", 1, 0, "z", nine...), entry("a", 1, 0, "z", nine...)},
		"all before nine":            {shards("a", 9, 0, "a", nine...), shards("a", 1, 0, "z", all()...), entry("a", 1, 0, "z", all()...)},
		"Gen before Size":            {shards("a", 1, 0, "a", nine...), shards("a", 2, 9, "z", nine...), entry("a", 2, 9, "z", nine...)},
		"Size before Sum":            {shards("a", 2, 8, "a", nine...), shards("a", 2, 7, "z", nine...), entry("a", 2, 7, "z", nine...)},
		"Sum last":                   {shards("a", 2, 7, "b", nine...), shards("a", 2, 7, "a", nine...), entry("a", 2, 7, "a", nine...)},
		"incomplete ones do not win": {shards("a", 9, 0, "a", all()[:7]...), shards("a", 1, 0, "z", eight...), entry("a", 1, 0, "z", eight...)},
	} {
		gen := max(c.worse[0].Rec.Gen, c.entry.Gen)
		t.Run(name, func(t *testing.T) {
			best(t, slices.Concat(c.worse, c.want), gen, c.entry)
			best(t, slices.Concat(c.want, c.worse), gen, c.entry)
		})
	}
}

// TestTheWorstGroupDecides: a copy is as good as the group that has the fewest places.
func TestTheWorstGroupDecides(t *testing.T) {
	mixed := slices.DeleteFunc(shards("a", 9, 300, "s", all()...), func(f api.Found) bool { return f.Rec.Group == 1 && f.Rec.Index > 7 })
	nine := shards("a", 1, 300, "s", all()[:9]...)
	best(t, append(mixed, nine...), 9, entry("a", 1, 300, "s", all()[:9]...))
	broken := slices.DeleteFunc(shards("a", 9, 300, "s", all()...), func(f api.Found) bool { return f.Rec.Group == 2 && f.Rec.Index > 6 })
	best(t, broken, 9)
	missing := slices.DeleteFunc(shards("a", 9, 300, "s", all()...), func(f api.Found) bool { return f.Rec.Group == 0 })
	best(t, missing, 9)
}

func TestTheFirstPlaceOfASlotCounts(t *testing.T) {
	list := shards("a", 3, 0, "s", all()...)
	again := at(20, 20, shard("a", 3, 0, "s", 0, 4))
	want := entry("a", 3, 0, "s", all()...)
	best(t, append(slices.Clone(list), again), 3, want)
	want.Places[4] = again.At
	best(t, append([]api.Found{again}, list...), 3, want)
}

func TestRecordsThatDoNotCount(t *testing.T) {
	list := shards("a", 3, 0, "s", all()[:8]...)
	for name, change := range map[string]func(f *api.Found){
		"Cart -1":   func(f *api.Found) { f.At.Cart = -1 },
		"Cart 32":   func(f *api.Found) { f.At.Cart = 32 },
		"Pos -1":    func(f *api.Found) { f.At.Pos = -1 },
		"Pos 1024":  func(f *api.Found) { f.At.Pos = 1024 },
		"not valid": func(f *api.Found) { f.Rec.Cart = 1 },
		"no kind":   func(f *api.Found) { f.Rec.Kind = 4 },
	} {
		changed := slices.Clone(list)
		for i := range changed {
			change(&changed[i])
		}
		t.Run(name, func(t *testing.T) {
			best(t, changed, 0)
			best(t, append(slices.Clone(list[1:]), changed[0]), 3)
		})
	}
	edges := slices.Clone(list)
	edges[0].At, edges[1].At = api.Place{Cart: 31, Pos: 1023}, api.Place{Cart: 0, Pos: 0}
	want := entry("a", 3, 0, "s", all()[:8]...)
	want.Places[0], want.Places[1] = edges[0].At, edges[1].At
	best(t, edges, 3, want)
}

func TestEntriesAreSortedByKey(t *testing.T) {
	keys := []string{"b", "a\xff", "a", "\x00", "ab", "\xff", "B"}
	var list []api.Found
	var want []api.Entry
	for _, key := range keys {
		list = append(list, shards(key, 1, 1, "s", all()...)...)
	}
	slices.Sort(keys)
	for _, key := range keys {
		want = append(want, entry(key, 1, 1, "s", all()...))
	}
	for seed := range 5 {
		rand.New(rand.NewSource(int64(seed))).Shuffle(len(list), func(i, j int) { list[i], list[j] = list[j], list[i] })
		best(t, list, 1, want...)
	}
}

func TestEntriesShareNoMemory(t *testing.T) {
	list := append(shards("a", 3, 0, "s", all()...), shards("b", 3, 0, "s", all()...)...)
	entries, _ := scan.Best(list)
	for i := range entries[0].Places {
		entries[0].Places[i] = nowhere
	}
	_ = append(entries[0].Places, nowhere)
	if !reflect.DeepEqual(entries[1], entry("b", 3, 0, "s", all()...)) {
		t.Error(entries[1])
	}
}

func TestAll(t *testing.T) {
	l := lib.New(3, 9, 1)
	put := func(n int, r api.Rec) api.Found {
		b, e := label.Encode(r)
		if e != api.OK {
			t.Fatal(e)
		}
		pos, e := l.Cart(n).Append(b)
		if e != api.OK {
			t.Fatal(e)
		}
		return at(n, pos, r)
	}
	put(1, api.Rec{Kind: api.Label, Cart: 1}) // on a cartridge that is lost
	second := put(2, api.Rec{Kind: api.Label, Cart: 7})
	first := put(0, shard("a", 3, 200, "s", 1, 4))
	l.Cart(0).Append([]byte("no record"))
	put(0, shard("b", 3, 200, "s", 1, 4)) // unreadable
	l.Cart(0).Rot(2)
	last := put(0, api.Rec{Kind: api.Tomb, Key: "x", Gen: 1})
	put(0, shard("c", 3, 200, "s", 1, 4)) // torn
	l.Cart(0).Tear(20)
	l.Cart(1).Lose()
	want := []api.Found{first, last, second}
	if got := scan.All(l); !reflect.DeepEqual(got, want) {
		t.Errorf("%+v, want %+v", got, want)
	}
	if got := scan.All(nil); len(got) != 0 {
		t.Error(got)
	}
	if got := scan.All(lib.New(3, 9, 1)); len(got) != 0 {
		t.Error(got)
	}
}
