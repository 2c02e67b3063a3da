package arch_test

import (
	"slices"
	"strings"
	"testing"

	"kist/api"
	"kist/arch"
	"kist/blob"
	"kist/label"
	"kist/plan"
)

// rotSlots makes the shards of these slots unreadable.
func rotSlots(t *testing.T, a *arch.Arch, key string, slots ...int) {
	t.Helper()
	e := entry(t, a, key)
	for _, slot := range slots {
		does(t, a, rot(e.Places[slot].Cart, e.Places[slot].Pos), api.OK)
	}
}

// wellStored checks that every shard of a blob is where its entry says, on ten cartridges for each group.
func wellStored(t *testing.T, a *arch.Arch, key, data string) {
	t.Helper()
	e := entry(t, a, key)
	want, _ := blob.Records(key, e.Gen, []byte(data))
	if len(e.Places) != len(want) || e.Size != len(data) || e.Sum != want[0].Sum || e.Gen < 1 || e.Gen > a.Cat().Gen() {
		t.Fatalf("%+v", e)
	}
	for slot, at := range e.Places {
		b, _ := a.Lib().Cart(at.Cart).Read(at.Pos)
		r, err := label.Decode(b)
		if err != api.OK || !label.Same(r, want[slot]) || !plan.Good(e, slot, r) {
			t.Errorf("%q: slot %d has %+v, %d", key, slot, r, err)
		}
		group := cartsOf(e.Places[slot-slot%10 : slot-slot%10+10])
		if slices.Sort(group); len(slices.Compact(group)) != 10 {
			t.Errorf("%q: two places of group %d are on one cartridge", key, slot/10)
		}
		if a.Cat().Retired(at.Cart) {
			t.Errorf("%q: slot %d is on a retired cartridge", key, slot)
		}
	}
}

func TestFlush(t *testing.T) {
	long := strings.Repeat("long", 75)
	a := settled(t, twelve(), "a", "xyz", "b", "", "c", long)
	wellStored(t, a, "a", "xyz")
	wellStored(t, a, "b", "")
	wellStored(t, a, "c", long)
	for key, want := range map[string][]int{
		"a": {0, 1, 2, 3, 4, 5, 6, 7, 8, 9},
		"b": {10, 11, 0, 1, 2, 3, 4, 5, 6, 7},
		"c": {8, 9, 10, 11, 0, 1, 2, 3, 4, 5, 6, 7, 8, 9, 10, 11, 0, 1, 2, 3, 4, 5, 6, 7, 8, 9, 10, 11, 0, 1},
	} {
		if got := cartsOf(entry(t, a, key).Places); !slices.Equal(got, want) {
			t.Error(key, got, want)
		}
	}
	if a.Cat().Gen() != 3 || entry(t, a, "c").Gen != 3 {
		t.Error(a.Cat().Gen())
	}
}

// TestFlushAvoidsRetiredCartridges, and those without room, and counts what other jobs will write.
func TestFlushAvoidsRetiredCartridges(t *testing.T) {
	c := twelve()
	c.Carts = 16
	a := build(t, c)
	for _, n := range []int{0, 5, 15} {
		does(t, a, retire(n), api.OK)
	}
	does(t, a, lose(7), api.OK)
	does(t, a, put("a", "xyz"), api.OK)
	settle(t, a)
	wellStored(t, a, "a", "xyz")
	if got := cartsOf(entry(t, a, "a").Places); !slices.Equal(got, []int{1, 2, 3, 4, 6, 8, 9, 10, 11, 12}) {
		t.Error(got)
	}
}

func TestRequestedWritesTakeRoom(t *testing.T) {
	a := settled(t, twelve(), "a", "xyz")
	does(t, a, put("b", "uvw"), api.OK)
	ticks(t, a, 1) // ten Writes: 10, 11 and 0 to 7
	does(t, a, remove("a"), api.OK)
	settle(t, a)
	if places, _ := recordsOf(a, api.Tomb); !slices.Equal(cartsOf(places), []int{8, 9, 10}) {
		t.Error(places)
	}
}

func TestABlobNeedsTenCartridges(t *testing.T) {
	c := twelve()
	c.Carts = 9
	a := build(t, c)
	does(t, a, put("a", "xyz"), api.OK)
	size := len(a.Disk().Bytes())
	ticks(t, a, 20)
	if a.Jobs() != 0 || a.Cat().Gen() != 0 || len(a.Disk().Bytes()) != size || a.Idle() {
		t.Error(a.Jobs(), a.Cat().Gen())
	}
	answers(t, a, recall("a"), api.OK, 1, "")
	answers(t, a, fetch(1), api.OK, 3, "xyz")
	answers(t, a, only(api.StepAdd), api.OK, 9, "")
	settle(t, a)
	wellStored(t, a, "a", "xyz")
}

// TestEveryGroupNeedsTenCartridges: there is room for one group only, and nothing is written.
func TestEveryGroupNeedsTenCartridges(t *testing.T) {
	c := twelve()
	c.Carts, c.Recs = 10, 2
	a := build(t, c)
	data := strings.Repeat("d", 129)
	does(t, a, put("a", data), api.OK)
	ticks(t, a, 50)
	if a.Jobs() != 0 || a.Cat().Gen() != 0 || a.Lib().Cart(0).Len() != 1 {
		t.Error(a.Jobs(), a.Cat().Gen())
	}
	for range 10 {
		a.Do(only(api.StepAdd))
	}
	settle(t, a)
	wellStored(t, a, "a", data)
}

// TestACartridgeIsLostDuringAFlush: its record is written elsewhere.
func TestACartridgeIsLostDuringAFlush(t *testing.T) {
	for n := range 30 {
		a := build(t, twelve())
		does(t, a, put("a", "xyz"), api.OK)
		ticks(t, a, n+1)
		if n/3 == 4 && n%3 == 2 {
			continue // just written
		}
		does(t, a, lose(4), api.OK)
		settle(t, a)
		e := entry(t, a, "a")
		want := []int{0, 1, 2, 3, 10, 5, 6, 7, 8, 9}
		if n/3 > 4 {
			want[4] = 4
		}
		if got := cartsOf(e.Places); !slices.Equal(got, want) {
			t.Error(n, got)
		}
		a.Do(recall("a"))
		waits(t, a, 1)
		answers(t, a, fetch(1), api.OK, 3, "xyz")
	}
}

// TestOneCartridgeElsewhereSuffices: there is exactly one that the group does not use yet.
func TestOneCartridgeElsewhereSuffices(t *testing.T) {
	c := twelve()
	c.Carts = 11
	a := build(t, c)
	does(t, a, put("a", "xyz"), api.OK)
	ticks(t, a, 1)
	does(t, a, lose(6), api.OK)
	settle(t, a)
	wellStored(t, a, "a", "xyz")
	if e := entry(t, a, "a"); e.Gen != 1 || e.Places[6].Cart != 10 {
		t.Error(e)
	}
}

// TestElsewhereIsNoCartridgeOfTheGroup: of another group it may be.
func TestElsewhereIsNoCartridgeOfTheGroup(t *testing.T) {
	c := twelve()
	c.Carts = 21
	a := build(t, c)
	data := strings.Repeat("d", 200)
	does(t, a, put("a", data), api.OK)
	ticks(t, a, 1) // the groups go to 0 to 9 and to 10 to 19
	does(t, a, lose(3), api.OK)
	does(t, a, lose(20), api.OK)
	settle(t, a)
	wellStored(t, a, "a", data)
	// All of 10 to 19 have one record of the second group, or will have one.
	if got := cartsOf(entry(t, a, "a").Places); got[3] != 10 || !slices.Equal(got[10:], []int{10, 11, 12, 13, 14, 15, 16, 17, 18, 19}) {
		t.Error(got)
	}
}

// TestNoCartridgeIsLeft: the Flush ends, the blob stays staged, and the work continues with a new cartridge.
func TestNoCartridgeIsLeft(t *testing.T) {
	c := twelve()
	c.Carts = 10
	a := build(t, c)
	does(t, a, put("a", "xyz"), api.OK)
	ticks(t, a, 5)
	does(t, a, lose(4), api.OK)
	ticks(t, a, 100)
	if a.Jobs() != 0 || a.Cat().Gen() != 1 {
		t.Error(a.Jobs(), a.Cat().Gen())
	}
	answers(t, a, status("a"), api.OK, 3, "\x01")
	answers(t, a, only(api.StepAdd), api.OK, 10, "")
	settle(t, a)
	wellStored(t, a, "a", "xyz")
	if a.Cat().Gen() != 2 {
		t.Error(a.Cat().Gen())
	}
}

func TestARecallReadsEightShards(t *testing.T) {
	a := settled(t, twelve(), "a", "xyz")
	ticks(t, a, 3)
	stands(t, a, 9, 2)
	a.Do(recall("a"))
	if n := waits(t, a, 1); n != 24 {
		t.Error(n)
	}
	stands(t, a, 7, 2)
	if a.Jobs() != 0 || !slices.Equal(a.Held(), []string{"a"}) {
		t.Error(a.Jobs(), a.Held())
	}
}

// TestARecallReadsMoreShards when one does not count, at once, and only of its group.
func TestARecallReadsMoreShards(t *testing.T) {
	data := strings.Repeat("0123456789", 20)
	for _, slots := range [][]int{{0}, {7}, {0, 1}, {0, 8}, {8, 9}, {3, 9, 10, 17}, {0, 5, 18, 19}} {
		a := settled(t, twelve(), "a", data)
		rotSlots(t, a, "a", slots...)
		a.Do(recall("a"))
		waits(t, a, 1)
		answers(t, a, fetch(1), api.OK, 200, data)
		if a.Jobs() != 0 {
			t.Error(slots, a.Jobs())
		}
	}
}

func TestARecallOfALostBlob(t *testing.T) {
	data := strings.Repeat("0123456789", 20)
	for _, slots := range [][]int{{0, 1, 2}, {7, 8, 9}, {10, 15, 19}, {0, 1, 2, 3, 4, 5, 6, 7, 8, 9}} {
		a := settled(t, twelve(), "a", data)
		rotSlots(t, a, "a", slots...)
		a.Do(recall("a"))
		waits(t, a, 1)
		answers(t, a, poll(1), api.ErrLost, 0, "")
		does(t, a, fetch(1), api.ErrLost)
		does(t, a, fetch(1), api.ErrNone)
		if a.Jobs() != 0 || len(a.Held()) != 0 || !a.Cat().Has("a") {
			t.Error(slots, a.Jobs(), a.Held())
		}
	}
}

// TestRecordsOfOthersDoNotCount: the entry names places of other shards.
func TestRecordsOfOthersDoNotCount(t *testing.T) {
	a := settled(t, twelve(), "a", "xyz", "b", "uvw")
	swapped := func(slots int) *arch.Arch {
		a := settled(t, twelve(), "a", "xyz", "b", "uvw")
		notes := a.Cat().Notes()
		does(t, a, crash(0, 0), api.OK)
		for slot := range slots {
			notes[1].Places[slot], notes[2].Places[slot] = notes[2].Places[slot], notes[1].Places[slot]
		}
		journal(t, a, notes...)
		does(t, a, only(api.StepOpen), api.OK)
		return a
	}
	a = swapped(2)
	a.Do(recall("a"))
	waits(t, a, 1)
	answers(t, a, fetch(1), api.OK, 3, "xyz")
	a.Do(only(api.StepCare))
	settle(t, a)
	wellStored(t, a, "a", "xyz")
	wellStored(t, a, "b", "uvw")
	a = swapped(3)
	a.Do(recall("a"))
	waits(t, a, 1)
	does(t, a, fetch(1), api.ErrLost)
}

func TestCareOfSoundBlobs(t *testing.T) {
	a := settled(t, twelve(), "a", "xyz", "b", strings.Repeat("b", 300))
	notes := a.Cat().Notes()
	answers(t, a, only(api.StepCare), api.OK, 2, "")
	answers(t, a, only(api.StepCare), api.OK, 2, "")
	if a.Idle() || a.Jobs() != 0 {
		t.Error(a.Idle(), a.Jobs())
	}
	settle(t, a)
	if !slices.EqualFunc(a.Cat().Notes(), notes, func(x, y api.Note) bool { return x.Key == y.Key && slices.Equal(x.Places, y.Places) }) {
		t.Error(a.Cat().Notes(), notes)
	}
	does(t, build(t, twelve()), only(api.StepCare), api.OK)
}

// TestCareReadsEveryShard, also those that a recall does not read.
func TestCareReadsEveryShard(t *testing.T) {
	for slot := range 20 {
		data := strings.Repeat("0123456789", 20)
		a := settled(t, twelve(), "a", data)
		rotSlots(t, a, "a", slot)
		gen := a.Cat().Gen()
		a.Do(only(api.StepCare))
		settle(t, a)
		wellStored(t, a, "a", data)
		if e := entry(t, a, "a"); e.Gen != gen+1 {
			t.Error(slot, e.Gen)
		}
	}
}

func TestCareLeavesRetiredCartridges(t *testing.T) {
	c := twelve()
	c.Carts = 14
	a := settled(t, c, "a", "xyz", "b", strings.Repeat("b", 300))
	for _, n := range []int{0, 9, 13} {
		does(t, a, retire(n), api.OK)
	}
	does(t, a, lose(5), api.OK)
	a.Do(only(api.StepCare))
	settle(t, a)
	wellStored(t, a, "a", "xyz")
	wellStored(t, a, "b", strings.Repeat("b", 300))
}

// TestCareSpreadsShards that are on one cartridge.
func TestCareSpreadsShards(t *testing.T) {
	a := settled(t, twelve(), "a", "xyz")
	e := entry(t, a, "a")
	b, _ := a.Lib().Cart(3).Read(e.Places[3].Pos)
	pos, _ := a.Lib().Cart(4).Append(b)
	does(t, a, rot(3, e.Places[3].Pos), api.OK)
	does(t, a, only(api.StepWipe), api.OK)
	if got := entry(t, a, "a").Places[3]; got != (api.Place{Cart: 4, Pos: pos}) {
		t.Fatal(got)
	}
	a.Do(only(api.StepCare))
	settle(t, a)
	wellStored(t, a, "a", "xyz")
}

func TestCareOfWhatCanNotBeRepaired(t *testing.T) {
	a := settled(t, twelve(), "a", "xyz", "b", "uvw")
	rotSlots(t, a, "a", 1, 2, 3)
	old := entry(t, a, "a")
	a.Do(only(api.StepCare))
	settle(t, a)
	if e := entry(t, a, "a"); e.Gen != old.Gen || a.Jobs() != 0 {
		t.Error(e.Gen, old.Gen)
	}
	wellStored(t, a, "b", "uvw")
	c := twelve()
	c.Carts = 10
	a = settled(t, c, "a", "xyz")
	does(t, a, lose(3), api.OK)
	a.Do(only(api.StepCare))
	settle(t, a) // nine cartridges are too few
	if e := entry(t, a, "a"); e.Gen != 1 || a.Cat().Gen() != 1 {
		t.Error(e.Gen, a.Cat().Gen())
	}
	a.Do(only(api.StepAdd))
	a.Do(only(api.StepCare))
	settle(t, a)
	wellStored(t, a, "a", "xyz")
}

// TestACartridgeIsLostDuringACare, and no other is left: the entry stays as it was.
func TestACartridgeIsLostDuringACare(t *testing.T) {
	c := twelve()
	c.Carts = 11
	a := settled(t, c, "a", "xyz")
	does(t, a, lose(3), api.OK)
	a.Do(only(api.StepCare))
	for a.Cat().Gen() == 1 {
		ticks(t, a, 1)
	}
	does(t, a, lose(8), api.OK)
	settle(t, a)
	if e := entry(t, a, "a"); e.Gen != 1 {
		t.Error(e.Gen)
	}
	a.Do(only(api.StepAdd))
	a.Do(only(api.StepAdd))
	a.Do(only(api.StepCare))
	settle(t, a)
	wellStored(t, a, "a", "xyz")
}

func TestCareSkipsWhatWasDeleted(t *testing.T) {
	a := settled(t, twelve(), "a", "1", "b", "2", "c", "3")
	answers(t, a, only(api.StepCare), api.OK, 3, "")
	does(t, a, remove("a"), api.OK)
	does(t, a, remove("b"), api.OK)
	does(t, a, put("b", "staged"), api.OK)
	ticks(t, a, 1)
	if a.Jobs() != 3 { // Tomb, Flush, and the Care of c
		t.Error(a.Jobs())
	}
	does(t, a, remove("c"), api.OK)
	if a.Jobs() != 2 {
		t.Error(a.Jobs())
	}
	settle(t, a)
	wellStored(t, a, "b", "staged")
}

// TestDeletingEndsACare in its middle: what it has written does not come back.
func TestDeletingEndsACare(t *testing.T) {
	for n := range 70 {
		a := settled(t, twelve(), "a", "xyz")
		rotSlots(t, a, "a", 0)
		a.Do(only(api.StepCare))
		ticks(t, a, n)
		does(t, a, remove("a"), api.OK)
		settle(t, a)
		does(t, a, only(api.StepWipe), api.OK)
		if len(a.Keys()) != 0 {
			t.Error(n, a.Keys())
		}
	}
}

func TestTombstonesAreWrittenThrice(t *testing.T) {
	a := settled(t, twelve(), "a", "xyz", "b", "uvw")
	does(t, a, remove("b"), api.OK)
	does(t, a, remove("a"), api.OK)
	settle(t, a)
	places, records := recordsOf(a, api.Tomb)
	if len(places) != 6 || len(a.Cat().Tombs()) != 0 {
		t.Fatal(places, a.Cat().Tombs())
	}
	// b's go to the three with the most room, a's to those that then have the most.
	for i, at := range places {
		want := api.Rec{Kind: api.Tomb, Key: "b", Gen: 3}
		if slices.Contains([]int{0, 1, 11}, at.Cart) {
			want.Key, want.Gen = "a", 4
		}
		if !label.Same(records[i], want) {
			t.Error(at, records[i], want)
		}
	}
	if carts := cartsOf(places); !slices.Equal(carts, []int{0, 1, 8, 9, 10, 11}) {
		t.Error(carts)
	}
}

func TestACartridgeIsLostDuringATomb(t *testing.T) {
	a := settled(t, twelve(), "a", "xyz")
	does(t, a, remove("a"), api.OK)
	ticks(t, a, 1) // goes to 10, 11 and 0
	does(t, a, lose(11), api.OK)
	settle(t, a)
	if places, _ := recordsOf(a, api.Tomb); !slices.Equal(cartsOf(places), []int{0, 1, 10}) {
		t.Error(places)
	}
	c := twelve()
	c.Carts = 10
	a = settled(t, c, "a", "xyz")
	for n := range 7 {
		does(t, a, retire(n), api.OK)
	}
	does(t, a, remove("a"), api.OK)
	ticks(t, a, 1)
	does(t, a, lose(8), api.OK)
	ticks(t, a, 50)
	if a.Jobs() != 0 || len(a.Cat().Tombs()) != 1 || a.Idle() {
		t.Error(a.Jobs(), a.Cat().Tombs())
	}
	a.Do(only(api.StepAdd))
	settle(t, a)
	if places, _ := recordsOf(a, api.Tomb); len(places) < 3 {
		t.Error(places)
	}
}

// TestDeletingKeepsTheTombJobOfTheKey: the key was put again and is deleted again meanwhile.
func TestDeletingKeepsTheTombJobOfTheKey(t *testing.T) {
	a := settled(t, twelve(), "a", "xyz")
	does(t, a, remove("a"), api.OK)
	ticks(t, a, 1)
	does(t, a, put("a", "again"), api.OK)
	does(t, a, remove("a"), api.OK)
	if a.Jobs() != 1 {
		t.Error(a.Jobs())
	}
	settle(t, a)
	if places, _ := recordsOf(a, api.Tomb); len(places) != 3 {
		t.Error(places)
	}
}
