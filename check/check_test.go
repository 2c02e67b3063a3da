package check_test

import (
	"math"
	"strings"
	"testing"

	"kist/api"
	"kist/arch"
	"kist/check"
)

// settled returns an archive of so many cartridges at rest that has these blobs: key, data, key, data, ..
func settled(t *testing.T, carts int, blobs ...string) *arch.Arch {
	t.Helper()
	a, e := arch.New(api.Config{Carts: carts, Recs: 100, Drives: 2, Quota: 4096, Cache: 0, Age: 9})
	if e != api.OK {
		t.Fatal(e)
	}
	for i := 0; i < len(blobs); i += 2 {
		do(t, a, api.Step{Kind: api.StepPut, Key: blobs[i], Data: []byte(blobs[i+1])})
		settle(t, a)
	}
	return a
}

func do(t *testing.T, a *arch.Arch, x api.Step) {
	t.Helper()
	if got := a.Do(x); got.E != api.OK {
		t.Fatalf("%+v: %d", x, got.E)
	}
}

func settle(t *testing.T, a *arch.Arch) {
	t.Helper()
	for n := 0; !a.Idle(); n++ {
		do(t, a, api.Step{Kind: api.StepTick})
		if n > 9999 {
			t.Fatal("the archive does not come to rest")
		}
	}
}

// spoil makes the record of a slot unreadable.
func spoil(t *testing.T, a *arch.Arch, key string, slots ...int) {
	t.Helper()
	e, _ := a.Cat().Entry(key)
	for _, slot := range slots {
		do(t, a, api.Step{Kind: api.StepRot, A: e.Places[slot].Cart, B: e.Places[slot].Pos})
	}
}

func is(t *testing.T, a *arch.Arch, faults int, whole bool) {
	t.Helper()
	if check.Faults(a) != faults || check.Whole(a) != whole {
		t.Errorf("%d faults and whole %v, want %d and %v", check.Faults(a), check.Whole(a), faults, whole)
	}
}

func reads(t *testing.T, a *arch.Arch, key, data string, want api.Errno) {
	t.Helper()
	if b, e := check.Read(a, key); string(b) != data || e != want || want != api.OK && b != nil {
		t.Errorf("Read(%q) = %q, %d, want %q, %d", key, b, e, data, want)
	}
}

func TestNothingToInspect(t *testing.T) {
	is(t, nil, 0, true)
	reads(t, nil, "a", "", api.ErrNone)
	a := settled(t, 12)
	is(t, a, 0, true)
	reads(t, a, "a", "", api.ErrNone)
	do(t, a, api.Step{Kind: api.StepPut, Key: "a", Data: []byte("xyz")})
	is(t, a, 0, true)
	reads(t, a, "a", "xyz", api.OK)
	do(t, a, api.Step{Kind: api.StepPut, Key: "b"})
	reads(t, a, "b", "", api.OK)
}

// TestFaults counts the worst group of all blobs.
func TestFaults(t *testing.T) {
	long := strings.Repeat("long", 100)
	a := settled(t, 12, "a", "xyz", "b", long, "c", "rst")
	is(t, a, 0, true)
	ticks := a.Jobs()
	spoil(t, a, "b", 10)
	is(t, a, 1, false)
	spoil(t, a, "b", 0, 21, 39) // one in each group
	is(t, a, 1, false)
	spoil(t, a, "b", 29)
	is(t, a, 2, false)
	reads(t, a, "b", long, api.OK)
	spoil(t, a, "a", 1, 5, 7)
	is(t, a, 3, false)
	reads(t, a, "a", "", api.ErrLost)
	spoil(t, a, "c", 0, 1, 2, 3, 4, 5, 6, 7, 8, 9)
	is(t, a, 10, false)
	reads(t, a, "c", "", api.ErrLost)
	reads(t, a, "b", long, api.OK)
	if a.Jobs() != ticks {
		t.Error("the inspection uses jobs")
	}
}

func TestALostCartridge(t *testing.T) {
	a := settled(t, 12, "a", "xyz", "b", strings.Repeat("b", 200))
	do(t, a, api.Step{Kind: api.StepLose, A: 0})
	is(t, a, 1, false)
	do(t, a, api.Step{Kind: api.StepLose, A: 1})
	is(t, a, 2, false)
	reads(t, a, "a", "xyz", api.OK)
	reads(t, a, "b", strings.Repeat("b", 200), api.OK)
	do(t, a, api.Step{Kind: api.StepCare})
	settle(t, a)
	is(t, a, 0, true)
	do(t, a, api.Step{Kind: api.StepLose, A: 2})
	do(t, a, api.Step{Kind: api.StepLose, A: 3})
	is(t, a, 2, false)
	do(t, a, api.Step{Kind: api.StepLose, A: 4})
	is(t, a, 3, false)
	reads(t, a, "a", "", api.ErrLost)
}

// TestRetiredCartridges have no faults, but what is on them is not whole.
func TestRetiredCartridges(t *testing.T) {
	a := settled(t, 14, "a", "xyz", "b", "uvw")
	do(t, a, api.Step{Kind: api.StepRetire, A: 9})
	is(t, a, 0, false)
	do(t, a, api.Step{Kind: api.StepCare})
	settle(t, a)
	is(t, a, 0, true)
	a = settled(t, 14, "a", "xyz")
	do(t, a, api.Step{Kind: api.StepRetire, A: 13}) // without a record of a blob
	is(t, a, 0, true)
}

// TestTwoPlacesOnOneCartridge: all shards are readable, but two of a group would be lost at once.
func TestTwoPlacesOnOneCartridge(t *testing.T) {
	a := settled(t, 12, "a", "xyz")
	e, _ := a.Cat().Entry("a")
	b, _ := a.Lib().Cart(e.Places[3].Cart).Read(e.Places[3].Pos)
	a.Lib().Cart(e.Places[4].Cart).Append(b)
	spoil(t, a, "a", 3)
	is(t, a, 1, false)
	do(t, a, api.Step{Kind: api.StepWipe})
	is(t, a, 0, false)
}

// TestRecordsOfOthersAreNotReadable: the place has a record, but not that of the slot.
func TestRecordsOfOthersAreNotReadable(t *testing.T) {
	a := settled(t, 12, "a", "xyz", "b", "uvw")
	e, _ := a.Cat().Entry("a")
	other, _ := a.Cat().Entry("b")
	n := api.Note{Kind: api.NotePlaced, Key: "a", Gen: e.Gen, Size: e.Size, Sum: e.Sum, Places: e.Places}
	n.Places[0], n.Places[1] = other.Places[0], api.Place{Cart: 0, Pos: 0} // a shard of b, and a label
	if err := a.Cat().Apply(n); err != api.OK {
		t.Fatal(err)
	}
	is(t, a, 2, false)
	reads(t, a, "a", "xyz", api.OK)
	n.Places[2] = api.Place{Cart: 0, Pos: 1024} // nowhere
	if err := a.Cat().Apply(n); err != api.OK {
		t.Fatal(err)
	}
	is(t, a, 3, false)
	reads(t, a, "a", "", api.ErrLost)
	n.Places, n.Sum = e.Places, strings.Repeat("s", 32)
	if err := a.Cat().Apply(n); err != api.OK {
		t.Fatal(err)
	}
	is(t, a, 10, false)
	reads(t, a, "a", "", api.ErrLost)
}

func TestATornRecordIsNotReadable(t *testing.T) {
	a := settled(t, 12, "a", "xyz")
	for _, n := range []int{3, 7} {
		if !a.Lib().Cart(n).Tear(40) {
			t.Fatal(n)
		}
	}
	is(t, a, 2, false)
	reads(t, a, "a", "xyz", api.OK)
}

func TestBound(t *testing.T) {
	for age, want := range map[int]int{0: 6843, 10: 6873, -1: 6843, -1 << 62: 6843, math.MinInt: 6843, 1024: 9915, 1 << 20: 3*(1<<20) + 6843} {
		if got := check.Bound(api.Config{Carts: 7, Recs: 8, Drives: 3, Quota: 9, Cache: 5, Age: age}); got != want {
			t.Error(age, got, want)
		}
	}
	check.Bound(api.Config{Age: math.MaxInt})
}

// TestARecallTakesNoLongerThanTheBound, with everything at once: other recalls, a Flush, a Care, a Tomb and two lost cartridges.
func TestARecallTakesNoLongerThanTheBound(t *testing.T) {
	long := strings.Repeat("0123456789abcdef", 32)
	a := settled(t, 14, "a", long, "b", long, "c", "x")
	do(t, a, api.Step{Kind: api.StepLose, A: 3})
	do(t, a, api.Step{Kind: api.StepLose, A: 8})
	do(t, a, api.Step{Kind: api.StepDelete, Key: "c"})
	do(t, a, api.Step{Kind: api.StepCare})
	do(t, a, api.Step{Kind: api.StepPut, Key: "d", Data: []byte(long)})
	for n := range 16 {
		do(t, a, api.Step{Kind: api.StepRecall, Key: []string{"a", "b"}[n%2]})
	}
	for range check.Bound(api.Config{Age: 9}) {
		do(t, a, api.Step{Kind: api.StepTick})
	}
	for n := range 16 {
		if got := a.Do(api.Step{Kind: api.StepFetch, A: n + 1}); got.E != api.OK || string(got.Data) != long {
			t.Error(n, got.E)
		}
	}
}
