package arch_test

import (
	"bytes"
	"math"
	"slices"
	"strings"
	"testing"

	"kist/api"
	"kist/arch"
	"kist/blob"
	"kist/jour"
	"kist/label"
	"kist/renew"
)

func TestFaultsOfCartridgesAndDrives(t *testing.T) {
	a := build(t, twelve())
	for _, n := range []int{-1, 12, math.MinInt, math.MaxInt} {
		for _, kind := range []int{api.StepRot, api.StepLose, api.StepBreak, api.StepMend} {
			unchanged(t, a, number(kind, n), api.ErrArg)
		}
	}
	does(t, a, rot(3, 1), api.ErrArg)
	does(t, a, rot(3, -1), api.ErrArg)
	does(t, a, rot(3, 0), api.OK)
	does(t, a, rot(3, 0), api.ErrArg)
	if _, e := a.Lib().Cart(3).Read(0); e != api.ErrRot {
		t.Error(e)
	}
	does(t, a, lose(3), api.OK)
	does(t, a, lose(3), api.ErrArg)
	if !a.Lib().Cart(3).Lost() || a.Lib().Cart(2).Lost() {
		t.Error("another cartridge is lost")
	}
	does(t, a, number(api.StepMend, 0), api.ErrArg)
	does(t, a, number(api.StepBreak, 0), api.OK)
	does(t, a, number(api.StepBreak, 0), api.ErrArg)
	if a.Lib().Working() != 0 {
		t.Error(a.Lib().Working())
	}
	does(t, a, number(api.StepMend, 0), api.OK)
	if a.Lib().Working() != 1 {
		t.Error(a.Lib().Working())
	}
}

func TestAdd(t *testing.T) {
	c := twelve()
	c.Carts, c.Recs = 30, 7
	a := build(t, c)
	answers(t, a, only(api.StepAdd), api.OK, 30, "")
	answers(t, a, only(api.StepAdd), api.OK, 31, "")
	does(t, a, only(api.StepAdd), api.ErrArg)
	places, labels := recordsOf(a, api.Label)
	if len(places) != 32 || labels[31].Cart != 31 || a.Lib().Cart(31).Room() != 6 {
		t.Error(len(places), a.Lib().Cart(31).Room())
	}
	c.Recs = 0
	a = build(t, c)
	answers(t, a, only(api.StepAdd), api.OK, 30, "")
	if a.Lib().Cart(30).Len() != 0 {
		t.Error("a label without room")
	}
}

func TestRetire(t *testing.T) {
	a := build(t, twelve())
	for _, n := range []int{-1, 12, math.MinInt, math.MaxInt} {
		unchanged(t, a, retire(n), api.ErrArg)
	}
	does(t, a, retire(11), api.OK)
	unchanged(t, a, retire(11), api.ErrArg)
	if !a.Cat().Retired(11) || a.Cat().Retired(10) {
		t.Error("another cartridge is retired")
	}
	does(t, a, crash(0, 0), api.OK)
	does(t, a, only(api.StepOpen), api.OK)
	if !a.Cat().Retired(11) {
		t.Error("the cartridge is not retired any more")
	}
	does(t, a, fuse(0), api.OK)
	does(t, a, retire(5), api.ErrDown)
	if a.State() != api.Stuck || a.Cat().Retired(5) {
		t.Error(a.State())
	}
}

// TestFuse: a put takes two operations of the disk.
func TestFuse(t *testing.T) {
	for n := range 4 {
		a := build(t, twelve())
		does(t, a, fuse(n), api.OK)
		want, state := api.OK, api.Up
		if n < 2 {
			want, state = api.ErrDown, api.Stuck
		}
		does(t, a, put("a", "x"), want)
		if a.State() != state || len(a.Keys()) != map[bool]int{true: 1}[state == api.Up] {
			t.Error(n, a.State(), a.Keys())
		}
	}
}

func TestCrashForgetsWorkInProgress(t *testing.T) {
	a := settled(t, twelve(), "a", "xyz", "b", "uvw", "c", "rst")
	a.Do(recall("c"))
	waits(t, a, 1)
	a.Do(recall("a"))
	a.Do(recall("c")) // from the cache
	a.Do(recall("b"))
	a.Do(only(api.StepCare))
	does(t, a, put("d", "new"), api.OK)
	ticks(t, a, 2)
	a.Do(retire(11))
	notes, records := a.Cat().Notes(), a.Lib().Cart(9).Len()
	if a.Jobs() != 4 || len(a.Held()) != 1 {
		t.Error(a.Jobs(), a.Held())
	}
	does(t, a, crash(0, -1), api.OK)
	if a.State() != api.Off || a.Jobs() != 0 || len(a.Held()) != 0 || len(a.Keys()) != 0 || !a.Idle() || len(a.Cat().Notes()) != 0 || a.Lib().Cart(9).Len() != records {
		t.Error(a.State(), a.Jobs(), a.Held(), a.Keys(), a.Idle())
	}
	does(t, a, poll(1), api.ErrGone) // also what was done
	does(t, a, fetch(2), api.ErrGone)
	does(t, a, only(api.StepOpen), api.OK)
	does(t, a, fetch(1), api.ErrGone)
	does(t, a, fetch(3), api.ErrGone)
	does(t, a, fetch(4), api.ErrGone)
	does(t, a, fetch(4), api.ErrNone)
	if a.State() != api.Up || !slices.EqualFunc(a.Cat().Notes(), notes, jour.Same) || a.Jobs() != 0 {
		t.Error(a.State(), a.Cat().Notes(), notes)
	}
	answers(t, a, recall("d"), api.OK, 5, "") // numbers are not used again
	settle(t, a)
	answers(t, a, status("d"), api.OK, 3, "\x02")
}

// TestCrashKeepsUnsyncedBytes: an interrupted put is in effect if all its bytes were kept.
func TestCrashKeepsUnsyncedBytes(t *testing.T) {
	for keep := -1; keep < 40; keep++ {
		a := build(t, twelve())
		does(t, a, put("a", "xyz"), api.OK)
		does(t, a, fuse(1), api.OK)
		does(t, a, put("b", "uvw"), api.ErrDown)
		loose := a.Disk().Loose()
		if len(a.Keys()) != 1 || loose == 0 {
			t.Fatal(a.Keys(), loose)
		}
		does(t, a, crash(keep, 0), api.OK)
		does(t, a, only(api.StepOpen), api.OK)
		if want := []string{"a", "b"}[:min(2, 1+max(keep, 0)/loose)]; !slices.Equal(a.Keys(), want) {
			t.Error(keep, a.Keys(), want)
		}
		does(t, a, put("c", "x"), api.OK) // the fuse is gone
	}
}

// lengths returns the lengths of all records.
func lengths(a *arch.Arch) [][]int {
	var all [][]int
	for n := range a.Lib().Carts() {
		var list []int
		for pos := range a.Lib().Cart(n).Len() {
			b, _ := a.Lib().Cart(n).Read(pos)
			list = append(list, len(b))
		}
		all = append(all, list)
	}
	return all
}

// TestCrashTearsTheRecordThatWasWrittenLast, while its job goes on: a record takes three ticks.
func TestCrashTearsTheRecordThatWasWrittenLast(t *testing.T) {
	for n := range 32 {
		a := build(t, twelve())
		does(t, a, put("a", "xyz"), api.OK)
		ticks(t, a, n)
		want := lengths(a)
		if written := n / 3; written > 0 && written < 10 {
			want[written-1][1] = 5
		}
		does(t, a, crash(0, 5), api.OK)
		if got := lengths(a); !slices.EqualFunc(got, want, slices.Equal) {
			t.Error(n, got, want)
		}
		does(t, a, crash(0, 2), api.OK) // no job is in progress any more
		if got := lengths(a); !slices.EqualFunc(got, want, slices.Equal) {
			t.Error(n, got, want)
		}
	}
}

func TestWhatACrashDoesNotTear(t *testing.T) {
	for name, prepare := range map[string]func(a *arch.Arch) int{
		"negative length":    func(a *arch.Arch) int { return -1 },
		"the whole record":   func(a *arch.Arch) int { return len(mustRead(a, 0, 1)) },
		"no longer the last": func(a *arch.Arch) int { a.Lib().Cart(0).Append([]byte("other")); return 1 },
		"its job has ended":  func(a *arch.Arch) int { a.Do(remove("a")); return 1 },
		"lost":               func(a *arch.Arch) int { a.Do(lose(0)); return 1 },
		"an earlier crash":   func(a *arch.Arch) int { a.Do(crash(0, -1)); return 1 },
		"a wipe":             func(a *arch.Arch) int { a.Do(only(api.StepWipe)); return 1 },
		"another job goes on": func(a *arch.Arch) int {
			a.Do(number(api.StepBreak, 0))
			a.Do(remove("a"))
			a.Do(put("b", "x"))
			a.Do(only(api.StepTick))
			return 1 // the Tomb and the Flush are in progress, but have written nothing yet
		},
	} {
		a := build(t, twelve())
		does(t, a, put("a", "xyz"), api.OK)
		ticks(t, a, 3)
		n := prepare(a)
		want := lengths(a)
		does(t, a, crash(0, n), api.OK)
		if got := lengths(a); !slices.EqualFunc(got, want, slices.Equal) {
			t.Error(name, got, want)
		}
	}
}

func mustRead(a *arch.Arch, n, pos int) []byte {
	b, _ := a.Lib().Cart(n).Read(pos)
	return b
}

func TestCrashTearsATombstone(t *testing.T) {
	a := settled(t, twelve(), "a", "xyz")
	does(t, a, remove("a"), api.OK)
	for range 20 {
		if places, _ := recordsOf(a, api.Tomb); len(places) == 2 {
			break
		}
		ticks(t, a, 1)
	}
	does(t, a, crash(0, 6), api.OK)
	places, _ := recordsOf(a, api.Tomb)
	if len(places) != 1 {
		t.Error(places)
	}
	does(t, a, only(api.StepOpen), api.OK)
	settle(t, a) // all three are written again
	if places, _ := recordsOf(a, api.Tomb); len(places) != 4 {
		t.Error(places)
	}
}

func TestOpen(t *testing.T) {
	a := build(t, twelve())
	does(t, a, only(api.StepOpen), api.ErrArg)
	does(t, a, put("a", "xyz"), api.OK)
	does(t, a, crash(0, 0), api.OK)
	a.Disk().Append([]byte("what a power failure left"))
	does(t, a, fuse(0), api.OK)
	does(t, a, only(api.StepOpen), api.ErrDown)
	does(t, a, put("b", "x"), api.ErrDown)
	if a.State() != api.Off || len(a.Keys()) != 0 {
		t.Error(a.State(), a.Keys())
	}
	does(t, a, fuse(1), api.OK)
	does(t, a, only(api.StepOpen), api.OK)
	does(t, a, only(api.StepOpen), api.ErrArg)
	if a.State() != api.Up || !slices.Equal(a.Keys(), []string{"a"}) {
		t.Error(a.State(), a.Keys())
	}
	does(t, a, crash(0, 0), api.OK)
	does(t, a, crash(0, 0), api.OK) // twice is once
	does(t, a, only(api.StepOpen), api.OK)
	if !slices.Equal(a.Keys(), []string{"a"}) {
		t.Error(a.Keys())
	}
}

func TestOpenRefusesNotesThatContradict(t *testing.T) {
	a := build(t, twelve())
	does(t, a, crash(0, 0), api.OK)
	good := api.Note{Kind: api.NotePut, Key: "a", Data: []byte("xyz")}
	journal(t, a, good, api.Note{Kind: api.NoteGone, Key: "b", Gen: 1})
	for range 2 {
		does(t, a, only(api.StepOpen), api.ErrForm)
		if a.State() != api.Off || len(a.Keys()) != 0 {
			t.Error(a.State(), a.Keys())
		}
	}
	journal(t, a, good)
	does(t, a, only(api.StepOpen), api.OK)
	answers(t, a, status("a"), api.OK, 3, "\x01")
}

func TestOpenContinuesTheWork(t *testing.T) {
	a := settled(t, twelve(), "a", "xyz")
	does(t, a, put("b", "uvw"), api.OK)
	ticks(t, a, 7)
	does(t, a, remove("a"), api.OK)
	does(t, a, crash(0, 9), api.OK)
	does(t, a, only(api.StepOpen), api.OK)
	if a.Idle() || len(a.Cat().Tombs()) != 1 || len(a.Cat().Staged()) != 1 {
		t.Error(a.Cat().Notes())
	}
	settle(t, a)
	answers(t, a, status("b"), api.OK, 3, "\x02")
	if places, _ := recordsOf(a, api.Tomb); len(places) != 3 {
		t.Error(places)
	}
}

func TestWipe(t *testing.T) {
	a := settled(t, twelve(), "a", "xyz", "b", strings.Repeat("b", 300), "c", "x")
	does(t, a, remove("c"), api.OK)
	settle(t, a)
	before := a.Cat()
	does(t, a, only(api.StepWipe), api.OK)
	if !renew.Alike(before, a.Cat()) || a.State() != api.Up || before == a.Cat() || !a.Idle() {
		t.Error(a.Keys(), a.State())
	}
	for _, key := range []string{"a", "b"} {
		if e, old := entry(t, a, key), must(before.Entry(key)); !slices.Equal(e.Places, old.Places) || e.Gen != old.Gen {
			t.Error(e, old)
		}
	}
	notes := renew.Rebuild(a.Lib())
	if got, _ := jour.Scan(a.Disk().Bytes()); !slices.EqualFunc(got, notes, jour.Same) || !slices.EqualFunc(a.Cat().Notes(), notes, jour.Same) || a.Disk().Loose() != 0 {
		t.Error(got, notes)
	}
	if a.Cat().Gen() != before.Gen() {
		t.Error(a.Cat().Gen(), before.Gen())
	}
	does(t, a, crash(0, 0), api.OK)
	does(t, a, only(api.StepOpen), api.OK)
	if !slices.Equal(a.Keys(), []string{"a", "b"}) {
		t.Error(a.Keys())
	}
}

func must(e api.Entry, ok bool) api.Entry {
	return e
}

// TestWipeForgetsWhatWasOnTheDisk: staged blobs, retired cartridges, tombstones, and work in progress.
func TestWipeForgetsWhatWasOnTheDisk(t *testing.T) {
	a := settled(t, twelve(), "a", "xyz", "b", "uvw")
	a.Do(recall("a"))
	a.Do(recall("b"))
	waits(t, a, 1)
	does(t, a, put("s", "staged"), api.OK)
	does(t, a, retire(3), api.OK)
	a.Do(only(api.StepCare))
	ticks(t, a, 1)
	does(t, a, remove("b"), api.OK)
	for _, state := range []int{api.Up, api.Stuck, api.Off} {
		switch state {
		case api.Stuck:
			does(t, a, put("s", "staged"), api.OK)
			does(t, a, fuse(0), api.OK)
			does(t, a, put("x", ""), api.ErrDown)
		case api.Off:
			does(t, a, crash(0, 0), api.OK)
		}
		if a.State() != state {
			t.Fatal(a.State())
		}
		does(t, a, only(api.StepWipe), api.OK)
		if a.State() != api.Up || !a.Idle() || a.Jobs() != 0 || len(a.Held()) != 0 || a.Cat().Retired(3) {
			t.Error(a.State(), a.Idle(), a.Jobs(), a.Held())
		}
		if !slices.Equal(a.Keys(), []string{"a", "b"}) { // the tombstone of b was on the disk alone
			t.Error(a.Keys())
		}
	}
	does(t, a, fetch(1), api.ErrGone)
	does(t, a, fetch(2), api.ErrGone)
	does(t, a, put("s", "again"), api.OK)
}

// manyBlobs writes so many small blobs straight to the cartridges: more than a disk has room for in its journal.
func manyBlobs(t *testing.T, a *arch.Arch, count int) {
	t.Helper()
	for i := range count {
		key := "key number " + string(rune('0'+i/1000)) + string(rune('0'+i/100%10)) + string(rune('0'+i/10%10)) + string(rune('0'+i%10))
		records, e := blob.Records(key, 1<<40-5000+i, nil)
		if e != api.OK {
			t.Fatal(e)
		}
		for _, r := range records {
			b, _ := label.Encode(r)
			if _, e := a.Lib().Cart((r.Index + i) % a.Lib().Carts()).Append(b); e != api.OK {
				t.Fatal(e)
			}
		}
	}
}

func TestWipeOfMoreThanADiskHolds(t *testing.T) {
	a := build(t, api.Config{Carts: 32, Recs: 1024, Quota: 9})
	manyBlobs(t, a, 3200)
	does(t, a, only(api.StepWipe), api.ErrOver)
	if a.State() != api.Stuck {
		t.Error(a.State())
	}
	does(t, a, put("a", "x"), api.ErrDown)
}

// sizeOf is the size of the notes' frames.
func sizeOf(t *testing.T, notes []api.Note) int {
	t.Helper()
	size := 0
	for _, n := range notes {
		b, e := jour.Encode(n)
		if e != api.OK {
			t.Fatal(e)
		}
		size += 8 + len(b)
	}
	return size
}

// TestTheJournalStaysShort: it is written anew when it has more than 2048 bytes plus twice those of the staged blobs.
func TestTheJournalStaysShort(t *testing.T) {
	a := build(t, twelve())
	swapped := 0
	step := func(x api.Step) {
		before := a.Disk().Bytes()
		a.Do(x)
		after, limit := a.Disk().Bytes(), 2048+2*a.Cat().Used()
		if len(after) > limit && len(after) != sizeOf(t, a.Cat().Notes()) {
			t.Fatalf("%+v: the journal has %d bytes, with a limit of %d", x, len(after), limit)
		}
		if bytes.HasPrefix(after, before) {
			return
		}
		swapped++
		if len(after) != sizeOf(t, a.Cat().Notes()) {
			t.Errorf("%+v: the journal was not swapped to the catalog's notes", x)
		}
	}
	for n := range 400 {
		key := string(rune('a' + n%7))
		if a.Cat().Has(key) {
			step(remove(key))
		} else {
			step(put(key, strings.Repeat("d", n%90)))
		}
		if n%3 == 0 {
			step(only(api.StepTick))
		}
	}
	if swapped < 3 || swapped > 40 {
		t.Error("the journal was shortened", swapped, "times")
	}
}

// TestTheJournalIsNotShortenedTooEarly: exactly 2048 bytes plus twice the staged ones are still right.
func TestTheJournalIsNotShortenedTooEarly(t *testing.T) {
	next := api.Note{Kind: api.NotePut, Key: "b", Data: []byte("12345")}
	useless := func(n int) api.Note { // a note that the catalog does not return
		return api.Note{Kind: api.NoteRetire, Cart: 3, Data: make([]byte, n)}
	}
	for surplus := range 2 {
		want := 2048 + 2*len(next.Data) + surplus
		notes := append(slices.Repeat([]api.Note{useless(100)}, 15), useless(0))
		notes[15].Data = make([]byte, want-sizeOf(t, notes)-sizeOf(t, []api.Note{next})-1) // its length takes one byte more
		if sizeOf(t, notes)+sizeOf(t, []api.Note{next}) != want {
			t.Fatal("the test's notes have another size")
		}
		a := build(t, twelve())
		does(t, a, crash(0, 0), api.OK)
		journal(t, a, notes...)
		does(t, a, only(api.StepOpen), api.OK)
		does(t, a, put("b", "12345"), api.OK)
		if surplus > 0 {
			want = sizeOf(t, a.Cat().Notes())
		}
		if got := len(a.Disk().Bytes()); got != want {
			t.Error(surplus, got, want)
		}
	}
}

// TestAFailureToShortenTheJournal: the note is in effect, but the archive is stuck.
func TestAFailureToShortenTheJournal(t *testing.T) {
	a := build(t, twelve())
	does(t, a, crash(0, 0), api.OK)
	journal(t, a, slices.Repeat([]api.Note{{Kind: api.NoteRetire, Cart: 3, Data: make([]byte, 400)}}, 6)...)
	does(t, a, only(api.StepOpen), api.OK)
	does(t, a, fuse(2), api.OK)
	does(t, a, put("b", "12345"), api.ErrDown)
	if a.State() != api.Stuck || !slices.Equal(a.Keys(), []string{"b"}) {
		t.Error(a.State(), a.Keys())
	}
	does(t, a, crash(0, 0), api.OK)
	does(t, a, only(api.StepOpen), api.OK)
	if !slices.Equal(a.Keys(), []string{"b"}) {
		t.Error(a.Keys())
	}
}

// fill returns notes whose frames leave less than so many bytes of a disk.
func fill(t *testing.T, left int, next func(n int) api.Note) []api.Note {
	t.Helper()
	var notes []api.Note
	size := 0
	for {
		n := next(len(notes))
		more := sizeOf(t, []api.Note{n})
		if size+more > 1<<18-left {
			return notes
		}
		notes = append(notes, n)
		size += more
	}
}

// TestAFullDiskIsShortened: the note is added once more after the swap.
func TestAFullDiskIsShortened(t *testing.T) {
	full := func() *arch.Arch {
		a := build(t, twelve())
		does(t, a, crash(0, 0), api.OK)
		notes := fill(t, 40, func(int) api.Note { return api.Note{Kind: api.NoteRetire, Cart: 3, Data: make([]byte, 70)} })
		journal(t, a, notes...)
		does(t, a, only(api.StepOpen), api.OK)
		return a
	}
	a := full()
	does(t, a, put("a", strings.Repeat("d", 400)), api.OK)
	if got, want := len(a.Disk().Bytes()), sizeOf(t, a.Cat().Notes()); got != want || !slices.Equal(a.Keys(), []string{"a"}) || a.State() != api.Up {
		t.Error(got, want, a.Keys())
	}
	for n := range 3 { // one swap, one append, one sync
		a := full()
		does(t, a, fuse(n), api.OK)
		does(t, a, put("a", strings.Repeat("d", 400)), api.ErrDown)
		if a.State() != api.Stuck || len(a.Keys()) != 0 {
			t.Error(n, a.State(), a.Keys())
		}
	}
	a = full()
	does(t, a, fuse(3), api.OK)
	does(t, a, put("a", strings.Repeat("d", 400)), api.OK)
}

// TestADiskThatIsFullOfEntries refuses a put, and nothing changes.
func TestADiskThatIsFullOfEntries(t *testing.T) {
	a := build(t, twelve())
	does(t, a, crash(0, 0), api.OK)
	notes := fill(t, 20, func(n int) api.Note {
		if n == 0 {
			return api.Note{Kind: api.NoteGen, Gen: 1 << 39}
		}
		key := "key number " + string(rune('0'+n/1000)) + string(rune('0'+n/100%10)) + string(rune('0'+n/10%10)) + string(rune('0'+n%10))
		return api.Note{Kind: api.NotePlaced, Key: key, Gen: 1 << 39, Sum: strings.Repeat("s", 32), Places: make([]api.Place, 10)}
	})
	journal(t, a, notes...)
	does(t, a, only(api.StepOpen), api.OK)
	unchanged(t, a, put("a", strings.Repeat("d", 400)), api.ErrOver)
	if a.State() != api.Up || a.Cat().Has("a") {
		t.Error(a.State())
	}
	keys := len(a.Keys())
	does(t, a, remove(a.Keys()[0]), api.OK)
	if len(a.Keys()) != keys-1 {
		t.Error(len(a.Keys()), keys)
	}
}

// TestTheLastGen: a blob can not be deleted or written any more, but nothing breaks.
func TestTheLastGen(t *testing.T) {
	a := settled(t, twelve(), "a", "xyz")
	b, _ := label.Encode(api.Rec{Kind: api.Tomb, Key: "x", Gen: 1 << 40})
	a.Lib().Cart(11).Append(b)
	does(t, a, only(api.StepWipe), api.OK)
	if a.Cat().Gen() != 1<<40 {
		t.Error(a.Cat().Gen())
	}
	unchanged(t, a, remove("a"), api.ErrForm)
	does(t, a, put("b", "uvw"), api.OK)
	ticks(t, a, 100)
	answers(t, a, status("b"), api.OK, 3, "\x01")
	a.Do(recall("a"))
	waits(t, a, 1)
	answers(t, a, fetch(1), api.OK, 3, "xyz")
	if a.Cat().Gen() != 1<<40 || a.Jobs() != 0 {
		t.Error(a.Cat().Gen(), a.Jobs())
	}
}
