package arch_test

import (
	"slices"
	"strings"
	"testing"

	"kist/api"
	"kist/arch"
	"kist/lift"
)

// stands checks which cartridge drive 0 has, and where it stands.
func stands(t *testing.T, a *arch.Arch, n, pos int) {
	t.Helper()
	if gotN, gotPos, works := a.Lib().Drive(0); gotN != n || gotPos != pos || !works {
		t.Errorf("the drive stands at %d %d, want %d %d", gotN, gotPos, n, pos)
	}
}

func TestARecordTakesThreeTicks(t *testing.T) {
	a := build(t, twelve())
	does(t, a, put("a", "xyz"), api.OK)
	for n := range 10 {
		ticks(t, a, 1)
		stands(t, a, n, 0)
		ticks(t, a, 1)
		stands(t, a, n, 1)
		if a.Lib().Cart(n).Len() != 1 {
			t.Error(n, "was written too early")
		}
		ticks(t, a, 1)
		stands(t, a, n, 2)
		if a.Lib().Cart(n).Len() != 2 {
			t.Error(n, "was not written")
		}
	}
	if !a.Idle() || a.Jobs() != 0 {
		t.Error(a.Jobs())
	}
	ticks(t, a, 5) // nothing to do
	stands(t, a, 9, 2)
}

func TestTheOldestBlobIsFlushedFirst(t *testing.T) {
	a := build(t, twelve())
	for _, key := range []string{"z", "a", "m"} {
		does(t, a, put(key, key), api.OK)
	}
	var order []string
	for len(order) < 3 {
		ticks(t, a, 1)
		if a.Jobs() > 1 {
			t.Fatal("two blobs are flushed at once")
		}
		for _, e := range a.Cat().Entries() {
			if !slices.Contains(order, e.Key) {
				order = append(order, e.Key)
			}
		}
	}
	if !slices.Equal(order, []string{"z", "a", "m"}) {
		t.Error(order)
	}
}

// TestWhatBeginsInATick: a Tomb, a Flush and a Care job, one of each.
func TestWhatBeginsInATick(t *testing.T) {
	a := settled(t, twelve(), "a", "1", "b", "2", "c", "3", "d", "4")
	does(t, a, remove("a"), api.OK)
	does(t, a, remove("b"), api.OK)
	does(t, a, put("e", "5"), api.OK)
	does(t, a, put("f", "6"), api.OK)
	answers(t, a, only(api.StepCare), api.OK, 2, "")
	if a.Jobs() != 0 {
		t.Error(a.Jobs())
	}
	ticks(t, a, 1)
	if a.Jobs() != 3 || len(a.Cat().Tombs()) != 2 || a.Cat().Gen() != 7 { // the Flush has taken a Gen, the Care none yet
		t.Error(a.Jobs(), a.Cat().Tombs(), a.Cat().Gen())
	}
	ticks(t, a, 1)
	if a.Jobs() != 3 {
		t.Error(a.Jobs())
	}
	answers(t, a, only(api.StepCare), api.OK, 2, "") // d still, and c again
	settle(t, a)
	if len(a.Cat().Entries()) != 4 {
		t.Error(a.Cat().Entries())
	}
}

// TestTombstonesComeFirst: their Writes do not know of those of a Flush that begins in the same tick, but the Flush knows of them.
func TestTombstonesComeFirst(t *testing.T) {
	c := twelve()
	c.Carts, c.Recs = 10, 3
	a := settled(t, c, "a", "1") // room for one record on each cartridge
	does(t, a, remove("a"), api.OK)
	does(t, a, put("b", "2"), api.OK)
	gen := a.Cat().Gen()
	ticks(t, a, 60)
	if places, _ := recordsOf(a, api.Tomb); len(places) != 3 {
		t.Error(places)
	}
	answers(t, a, status("b"), api.OK, 1, "\x01")
	if a.Cat().Gen() != gen {
		t.Error("a Flush began without ten cartridges:", a.Cat().Gen(), gen)
	}
	for range 3 {
		a.Do(only(api.StepAdd))
	}
	settle(t, a)
	answers(t, a, status("b"), api.OK, 1, "\x02")
}

func TestTombstonesWantThreeCartridges(t *testing.T) {
	c := twelve()
	c.Carts, c.Recs = 10, 3
	a := settled(t, c, "a", "1")
	for n := range 8 {
		does(t, a, retire(n), api.OK)
	}
	does(t, a, remove("a"), api.OK)
	ticks(t, a, 50)
	if a.Jobs() != 0 || a.Idle() {
		t.Error(a.Jobs(), a.Idle())
	}
	answers(t, a, only(api.StepAdd), api.OK, 10, "")
	settle(t, a)
	if places, _ := recordsOf(a, api.Tomb); !slices.Equal(cartsOf(places), []int{8, 9, 10}) {
		t.Error(places)
	}
}

func TestTicksWithoutADrive(t *testing.T) {
	c := twelve()
	c.Drives = 0
	a := build(t, c)
	does(t, a, put("a", "x"), api.OK)
	ticks(t, a, 50)
	if a.Jobs() != 1 {
		t.Error(a.Jobs())
	}
	a = build(t, twelve())
	does(t, a, put("a", "x"), api.OK)
	ticks(t, a, 4)
	does(t, a, number(api.StepBreak, 0), api.OK)
	ticks(t, a, 50)
	answers(t, a, status("a"), api.OK, 1, "\x01")
	does(t, a, number(api.StepMend, 0), api.OK)
	settle(t, a)
}

// TestAge: requests of b are older, but the drive stands at a cartridge of a.
func TestAge(t *testing.T) {
	for age, want := range map[int][][2]int{
		0: {{10, 0}, {10, 1}},
		1: {{10, 0}, {10, 1}},
		2: {{7, 1}, {10, 0}},
		3: {{7, 1}, {7, 2}, {10, 0}},
		9: {{7, 1}, {7, 2}, {10, 0}},
	} {
		c := twelve()
		c.Age = age
		a := settled(t, c, "a", "1", "b", "2")
		if carts := cartsOf(entry(t, a, "b").Places); !slices.Equal(carts, []int{10, 11, 0, 1, 2, 3, 4, 5, 6, 7}) {
			t.Fatal(carts)
		}
		stands(t, a, 7, 3)
		a.Do(recall("b"))
		a.Do(recall("a"))
		for _, at := range want {
			ticks(t, a, 1)
			stands(t, a, at[0], at[1])
		}
	}
}

// TestBornIsTheTimeOfTheRequest: of two recalls, the later one becomes overdue later.
func TestBornIsTheTimeOfTheRequest(t *testing.T) {
	c := twelve()
	c.Age = 6
	a := settled(t, c, "a", "1", "b", "2")
	a.Do(recall("b"))
	ticks(t, a, 2) // loads 10 and moves to 1
	stands(t, a, 10, 1)
	a.Do(recall("a"))
	ticks(t, a, 1) // reads
	ticks(t, a, 2) // 11, because no head meets anything and it is the oldest
	stands(t, a, 11, 1)
	ticks(t, a, 3) // reads 11, and goes to 0, where a head then meets the record of a before that of b
	stands(t, a, 0, 2)
}

// TestRequestsFollowTheLift simulates the order of a whole recall's requests.
func TestRequestsFollowTheLift(t *testing.T) {
	for _, age := range []int{0, 5, 1000} {
		for drives := 1; drives <= 4; drives++ {
			c := twelve()
			c.Age, c.Drives = age, drives
			a := settled(t, c, "a", strings.Repeat("a", 500), "b", strings.Repeat("b", 500))
			twin := settled(t, c, "a", strings.Repeat("a", 500), "b", strings.Repeat("b", 500))
			now := 0
			var asks []api.Ask
			request := func(key string) {
				a.Do(recall(key))
				e := entry(t, twin, key)
				for slot, at := range e.Places {
					if slot%10 < 8 {
						asks = append(asks, api.Ask{Op: api.Read, Cart: at.Cart, Pos: at.Pos, Slot: slot, Born: now})
					}
				}
			}
			request("b")
			for len(asks) > 0 {
				ticks(t, a, 1)
				now++
				var heads []api.Head
				for d := range drives {
					if n, pos, works := twin.Lib().Drive(d); works && n >= 0 {
						heads = append(heads, api.Head{Cart: n, Pos: pos})
					}
				}
				next, _ := lift.Next(asks, heads, now, age)
				if there, _ := twin.Lib().Go(asks[next].Cart, asks[next].Pos); there {
					twin.Lib().Read(asks[next].Cart, asks[next].Pos)
					asks = slices.Delete(asks, next, next+1)
				}
				for d := range drives {
					n, pos, _ := a.Lib().Drive(d)
					if wantN, wantPos, _ := twin.Lib().Drive(d); n != wantN || pos != wantPos {
						t.Fatal(age, drives, now, d, n, pos, "want", wantN, wantPos)
					}
				}
				if now == 7 {
					request("a")
				}
			}
			if a.Jobs() != 0 {
				t.Error(age, drives, a.Jobs())
			}
		}
	}
}

func TestATickThatFails(t *testing.T) {
	// A Flush takes two operations of the disk for its NoteGen, and two for its NotePlaced.
	for n := range 5 {
		a := build(t, twelve())
		does(t, a, put("a", "x"), api.OK)
		does(t, a, fuse(n), api.OK)
		failed := 0
		for tick := 1; tick <= 30 && failed == 0; tick++ {
			if got := a.Do(only(api.StepTick)); got.E != api.OK {
				failed = tick
				if got.E != api.ErrDown || got.N != 0 || len(got.Data) != 0 {
					t.Error(n, got)
				}
			}
		}
		if want := []int{1, 1, 30, 30, 0}[n]; failed != want {
			t.Error(n, "failed in tick", failed, "want", want)
		}
		if n == 4 {
			continue
		}
		if a.State() != api.Stuck || a.Jobs() != 0 || len(a.Cat().Entries()) != 0 {
			t.Error(n, a.State(), a.Jobs())
		}
		if n < 2 && a.Lib().Cart(0).Len() != 1 {
			t.Error("a record was written without its Gen")
		}
		does(t, a, only(api.StepTick), api.ErrDown)
		does(t, a, crash(0, 0), api.OK)
		does(t, a, only(api.StepOpen), api.OK)
		settle(t, a)
		answers(t, a, status("a"), api.OK, 1, "\x02")
	}
}

// TestAFailedFlushServesNothing: no drive moves in that tick, and no Care begins.
func TestAFailedFlushServesNothing(t *testing.T) {
	a := settled(t, twelve(), "a", "x")
	a.Do(recall("a"))
	a.Do(only(api.StepCare))
	does(t, a, put("b", "x"), api.OK)
	n, pos, _ := a.Lib().Drive(0)
	does(t, a, fuse(0), api.OK)
	does(t, a, only(api.StepTick), api.ErrDown)
	stands(t, a, n, pos)
	if a.Jobs() != 1 || a.State() != api.Stuck {
		t.Error(a.Jobs(), a.State())
	}
	if a.Do(poll(1)).E != api.ErrOpen {
		t.Error("the ticket of a stuck archive is not open")
	}
}
