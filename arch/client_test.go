package arch_test

import (
	"math"
	"slices"
	"strings"
	"testing"

	"kist/api"
	"kist/arch"
)

func TestNewChecksItsConfiguration(t *testing.T) {
	greatest := api.Config{Carts: 32, Recs: 1024, Drives: 4, Quota: 1 << 15, Cache: 1 << 15, Age: 1024}
	build(t, greatest)
	build(t, api.Config{})
	fields := []func(c *api.Config) *int{
		func(c *api.Config) *int { return &c.Carts }, func(c *api.Config) *int { return &c.Recs }, func(c *api.Config) *int { return &c.Drives },
		func(c *api.Config) *int { return &c.Quota }, func(c *api.Config) *int { return &c.Cache }, func(c *api.Config) *int { return &c.Age },
	}
	for i, field := range fields {
		for _, n := range []int{-1, *field(&greatest) + 1, math.MinInt, math.MaxInt} {
			c := greatest
			*field(&c) = n
			if a, e := arch.New(c); a != nil || e != api.ErrArg {
				t.Error(i, n, a, e)
			}
		}
	}
}

func TestANewArchive(t *testing.T) {
	a := build(t, twelve())
	if a.State() != api.Up || !a.Idle() || a.Jobs() != 0 || len(a.Keys()) != 0 || len(a.Held()) != 0 || len(a.Disk().Bytes()) != 0 || len(a.Cat().Notes()) != 0 {
		t.Error("a new archive is not empty")
	}
	places, labels := recordsOf(a, api.Label)
	for n, at := range places {
		if at != (api.Place{Cart: n}) || labels[n].Cart != n {
			t.Error(n, at, labels[n])
		}
	}
	if len(places) != 12 || a.Lib().Carts() != 12 || a.Lib().Drives() != 1 || a.Lib().Cart(11).Room() != 199 {
		t.Error(len(places), a.Lib().Carts(), a.Lib().Drives(), a.Lib().Cart(11).Room())
	}
	c := twelve()
	c.Recs = 0
	if a := build(t, c); a.Lib().Cart(3).Len() != 0 || a.Lib().Carts() != 12 {
		t.Error("a label without room")
	}
}

func TestExample(t *testing.T) {
	a := build(t, twelve())
	does(t, a, put("a", "xyz"), api.OK)
	answers(t, a, recall("a"), api.OK, 1, "")
	answers(t, a, fetch(1), api.OK, 3, "xyz")
	ticks(t, a, 29)
	answers(t, a, status("a"), api.OK, 3, "\x01")
	ticks(t, a, 1)
	answers(t, a, status("a"), api.OK, 3, "\x02")
	answers(t, a, recall("a"), api.OK, 2, "")
	answers(t, a, fetch(2), api.ErrOpen, 0, "")
	waits(t, a, 2)
	answers(t, a, fetch(2), api.OK, 3, "xyz")
	answers(t, a, fetch(2), api.ErrNone, 0, "")
}

// TestWithoutCartridges: the blob stays staged forever.
func TestWithoutCartridges(t *testing.T) {
	a := build(t, api.Config{Quota: 9})
	does(t, a, put("a", ""), api.OK)
	ticks(t, a, 100)
	answers(t, a, status("a"), api.OK, 0, "\x01")
	if a.Idle() || a.Jobs() != 0 || a.Cat().Gen() != 0 {
		t.Error(a.Idle(), a.Jobs(), a.Cat().Gen())
	}
}

func TestPut(t *testing.T) {
	c := twelve()
	c.Quota = 1000
	a := build(t, c)
	does(t, a, put("a", "xyz"), api.OK)
	long := strings.Repeat("d", 513)
	unchanged(t, a, put("", long), api.ErrKey)
	unchanged(t, a, put(strings.Repeat("k", 17), "x"), api.ErrKey)
	unchanged(t, a, put("a", long), api.ErrLarge)
	unchanged(t, a, put("a", "x"), api.ErrExists)
	does(t, a, put(strings.Repeat("\xff", 16), long[1:]), api.OK)
	unchanged(t, a, put("a", long[27:]), api.ErrExists)
	unchanged(t, a, put("b", long[27:]), api.ErrFull) // 1 more than the quota
	does(t, a, put("b", long[28:]), api.OK)
	unchanged(t, a, put("c", "x"), api.ErrFull)
	does(t, a, put("c", ""), api.OK)
	settle(t, a)
	unchanged(t, a, put("a", "x"), api.ErrExists) // also as an entry
	does(t, a, put("d", long[1:]), api.OK)
	if !slices.Equal(a.Keys(), []string{"a", "b", "c", "d", strings.Repeat("\xff", 16)}) {
		t.Error(a.Keys())
	}
}

func TestPutKeepsACopy(t *testing.T) {
	a := build(t, twelve())
	x := put("a", "xyz")
	a.Do(x)
	x.Data[0] = 'w'
	a.Do(recall("a"))
	got := a.Do(fetch(1))
	if string(got.Data) != "xyz" {
		t.Errorf("%q", got.Data)
	}
	got.Data[0] = 'w'
	a.Do(recall("a"))
	answers(t, a, fetch(2), api.OK, 3, "xyz")
}

func TestTicketsOfStagedBlobs(t *testing.T) {
	a := build(t, twelve())
	does(t, a, recall("a"), api.ErrNone)
	does(t, a, put("a", "xyz"), api.OK)
	does(t, a, put("b", ""), api.OK)
	answers(t, a, recall("a"), api.OK, 1, "")
	answers(t, a, recall("b"), api.OK, 2, "")
	answers(t, a, poll(1), api.OK, 3, "")
	answers(t, a, poll(1), api.OK, 3, "")
	answers(t, a, poll(2), api.OK, 0, "")
	for _, ticket := range []int{0, 3, -1, math.MinInt, math.MaxInt} {
		does(t, a, poll(ticket), api.ErrNone)
		does(t, a, fetch(ticket), api.ErrNone)
	}
	answers(t, a, fetch(1), api.OK, 3, "xyz")
	does(t, a, poll(1), api.ErrNone)
	answers(t, a, fetch(2), api.OK, 0, "")
	answers(t, a, recall("a"), api.OK, 3, "") // numbers are not used again
	if a.Jobs() != 0 || len(a.Held()) != 0 {
		t.Error(a.Jobs(), a.Held())
	}
}

func TestNumberOfTickets(t *testing.T) {
	a := settled(t, twelve(), "a", "xyz", "b", "uvw")
	for n := range 16 {
		answers(t, a, recall("a"), api.OK, n+1, "")
	}
	does(t, a, recall("nobody"), api.ErrNone) // named before ErrBusy
	does(t, a, recall("a"), api.ErrBusy)
	if a.Jobs() != 16 {
		t.Error(a.Jobs())
	}
	for n := range 16 {
		waits(t, a, n+1)
	}
	does(t, a, recall("a"), api.ErrBusy) // they count until they are fetched
	answers(t, a, fetch(7), api.OK, 3, "xyz")
	answers(t, a, recall("b"), api.OK, 17, "") // no number for the refused ones
	does(t, a, recall("a"), api.ErrBusy)
	answers(t, a, fetch(17), api.ErrOpen, 0, "")
	does(t, a, recall("a"), api.ErrBusy) // fetching an open one does not remove it
}

func TestTheCacheAnswersRecalls(t *testing.T) {
	c := twelve()
	c.Cache = 6
	a := settled(t, c, "a", "xyz", "b", "uvw", "c", "1234567", "d", "rst")
	if len(a.Held()) != 0 {
		t.Error(a.Held())
	}
	a.Do(recall("a"))
	a.Do(recall("b"))
	waits(t, a, 1)
	waits(t, a, 2)
	if held := slices.Sorted(slices.Values(a.Held())); !slices.Equal(held, []string{"a", "b"}) {
		t.Error(a.Held())
	}
	oldest, newest := a.Held()[0], a.Held()[1]
	a.Do(recall(oldest))
	if a.Do(poll(3)).E != api.OK || a.Jobs() != 0 {
		t.Error("the cache does not answer")
	}
	if !slices.Equal(a.Held(), []string{newest, oldest}) {
		t.Error("the recall did not count as a use:", a.Held())
	}
	a.Do(recall("c")) // larger than the cache
	waits(t, a, 4)
	answers(t, a, fetch(4), api.OK, 7, "1234567")
	if !slices.Equal(a.Held(), []string{newest, oldest}) {
		t.Error(a.Held())
	}
	a.Do(recall("d"))
	waits(t, a, 5)
	if !slices.Equal(a.Held(), []string{oldest, "d"}) {
		t.Error(a.Held())
	}
	does(t, a, remove(oldest), api.OK)
	if !slices.Equal(a.Held(), []string{"d"}) {
		t.Error(a.Held())
	}
}

func TestDelete(t *testing.T) {
	a := settled(t, twelve(), "a", "xyz", "b", "uvw")
	unchanged(t, a, remove("nobody"), api.ErrNone)
	unchanged(t, a, remove(""), api.ErrNone)
	a.Do(recall("a")) // done
	waits(t, a, 1)
	a.Do(recall("a")) // done as well, from the cache
	c := twelve()
	c.Cache = 0
	a = settled(t, c, "a", "xyz", "b", "uvw")
	a.Do(recall("a"))
	waits(t, a, 1)
	a.Do(recall("a"))
	a.Do(recall("b"))
	ticks(t, a, 5)
	if a.Jobs() != 2 {
		t.Error(a.Jobs())
	}
	gen := a.Cat().Gen()
	does(t, a, remove("a"), api.OK)
	if a.Jobs() != 1 || a.Cat().Gen() != gen+1 || !slices.Equal(a.Keys(), []string{"b"}) || a.Idle() {
		t.Error(a.Jobs(), a.Cat().Gen(), a.Keys())
	}
	answers(t, a, fetch(1), api.OK, 3, "xyz") // done before
	does(t, a, poll(2), api.ErrGone)
	does(t, a, fetch(2), api.ErrGone)
	does(t, a, fetch(2), api.ErrNone)
	answers(t, a, poll(3), api.ErrOpen, 0, "") // of another key
	unchanged(t, a, remove("a"), api.ErrNone)
	does(t, a, recall("a"), api.ErrNone)
	does(t, a, put("a", "again"), api.OK)
	waits(t, a, 3)
	answers(t, a, fetch(3), api.OK, 3, "uvw")
	settle(t, a)
	answers(t, a, status("a"), api.OK, 5, "\x02")
}

func TestDeleteOfAStagedBlob(t *testing.T) {
	a := build(t, twelve())
	does(t, a, put("a", "xyz"), api.OK)
	does(t, a, remove("a"), api.OK)
	if !a.Idle() || len(a.Keys()) != 0 {
		t.Error("a blob that was never written leaves work")
	}
	does(t, a, put("a", "xyz"), api.OK)
	ticks(t, a, 1) // its Flush begins
	if a.Jobs() != 1 {
		t.Error(a.Jobs())
	}
	does(t, a, remove("a"), api.OK)
	if a.Jobs() != 0 || a.Idle() || len(a.Cat().Tombs()) != 1 {
		t.Error(a.Jobs(), a.Idle(), a.Cat().Tombs())
	}
	settle(t, a)
	places, records := recordsOf(a, api.Tomb)
	if len(places) != 3 || records[0].Key != "a" || records[0].Gen != 3 {
		t.Error(places, records)
	}
	if carts := cartsOf(places); !slices.Equal(carts, []int{0, 1, 2}) { // the Writes of the Flush take no room any more
		t.Error(carts)
	}
}

// TestDeletingRemovesRequests: no drive moves for a job that has ended.
func TestDeletingRemovesRequests(t *testing.T) {
	a := settled(t, twelve(), "a", "xyz")
	for n := range 10 {
		does(t, a, retire(n), api.OK) // two cartridges are too few for tombstones
	}
	a.Do(recall("a"))
	ticks(t, a, 1)
	stands(t, a, 0, 0)
	does(t, a, remove("a"), api.OK)
	ticks(t, a, 9)
	stands(t, a, 0, 0)
	if a.Jobs() != 0 {
		t.Error(a.Jobs())
	}
}

func TestListAndStatus(t *testing.T) {
	a := settled(t, twelve(), "b", "12345")
	does(t, a, put("a\x00", "xyz"), api.OK)
	does(t, a, put("c", ""), api.OK)
	answers(t, a, only(api.StepList), api.OK, 3, "\x02a\x00\x01b\x01c")
	answers(t, a, status("b"), api.OK, 5, "\x02")
	answers(t, a, status("a\x00"), api.OK, 3, "\x01")
	answers(t, a, status("c"), api.OK, 0, "\x01")
	does(t, a, status("a"), api.ErrNone)
	does(t, a, status(""), api.ErrNone)
	a.Do(remove("b"))
	does(t, a, status("b"), api.ErrNone)
	does(t, build(t, twelve()), only(api.StepList), api.OK)
}

// TestKindsAndStates: which steps are possible in which state.
func TestKindsAndStates(t *testing.T) {
	needDisk := []api.Step{put("n", "x"), remove("a"), recall("a"), only(api.StepTick), only(api.StepCare), retire(1), only(api.StepList), status("a")}
	up := settled(t, twelve(), "a", "x")
	stuck := settled(t, twelve(), "a", "x")
	stuck.Do(fuse(0))
	does(t, stuck, put("b", "x"), api.ErrDown)
	off := settled(t, twelve(), "a", "x")
	off.Do(crash(0, 0))
	for name, a := range map[string]*arch.Arch{"up": up, "stuck": stuck, "off": off} {
		if want := map[string]int{"up": 0, "stuck": 1, "off": 2}[name]; a.State() != want {
			t.Error(name, a.State())
		}
		for _, kind := range []int{0, 20, -1, math.MinInt, math.MaxInt} {
			unchanged(t, a, only(kind), api.ErrArg)
		}
		if name == "up" {
			continue
		}
		for _, x := range needDisk {
			unchanged(t, a, x, api.ErrDown)
		}
	}
	for _, a := range []*arch.Arch{up, stuck, off} {
		does(t, a, poll(1), api.ErrNone)
		does(t, a, rot(0, 0), api.OK)
		does(t, a, lose(1), api.OK)
		does(t, a, number(api.StepBreak, 0), api.OK)
		does(t, a, number(api.StepMend, 0), api.OK)
		answers(t, a, only(api.StepAdd), api.OK, 12, "")
		does(t, a, fuse(9), api.OK)
	}
	does(t, up, only(api.StepOpen), api.ErrArg)
	does(t, stuck, only(api.StepOpen), api.ErrArg)
	does(t, off, only(api.StepOpen), api.OK)
}

func TestNilArchive(t *testing.T) {
	var a *arch.Arch
	for kind := range 21 {
		does(t, a, only(kind), api.ErrArg)
	}
	if !a.Idle() || a.Lib() != nil || a.Disk() != nil || a.Cat() != nil || len(a.Keys()) != 0 || len(a.Held()) != 0 || a.Jobs() != 0 || a.State() != 0 {
		t.Error("a nil archive does something")
	}
}
