package arch_test

import (
	"bytes"
	"slices"
	"testing"

	"kist/api"
	"kist/arch"
	"kist/jour"
	"kist/label"
)

// twelve is the configuration of the document's example, with room for everything that the tests do.
func twelve() api.Config {
	return api.Config{Carts: 12, Recs: 200, Drives: 1, Quota: 4096, Cache: 1024, Age: 50}
}

func build(t *testing.T, c api.Config) *arch.Arch {
	t.Helper()
	a, e := arch.New(c)
	if e != api.OK || a == nil {
		t.Fatal(a, e)
	}
	return a
}

// answers performs a step and checks its whole answer.
func answers(t *testing.T, a *arch.Arch, x api.Step, e api.Errno, n int, data string) {
	t.Helper()
	if got := a.Do(x); got.E != e || got.N != n || string(got.Data) != data {
		t.Errorf("%+v: answer %d %d %q, want %d %d %q", x, got.E, got.N, got.Data, e, n, data)
	}
}

// does performs a step whose answer has nothing but an error, or OK.
func does(t *testing.T, a *arch.Arch, x api.Step, e api.Errno) {
	t.Helper()
	answers(t, a, x, e, 0, "")
}

func put(key, data string) api.Step {
	return api.Step{Kind: api.StepPut, Key: key, Data: []byte(data)}
}

func recall(key string) api.Step  { return api.Step{Kind: api.StepRecall, Key: key} }
func remove(key string) api.Step  { return api.Step{Kind: api.StepDelete, Key: key} }
func status(key string) api.Step  { return api.Step{Kind: api.StepStatus, Key: key} }
func poll(ticket int) api.Step    { return api.Step{Kind: api.StepPoll, A: ticket} }
func fetch(ticket int) api.Step   { return api.Step{Kind: api.StepFetch, A: ticket} }
func retire(n int) api.Step       { return api.Step{Kind: api.StepRetire, A: n} }
func rot(n, pos int) api.Step     { return api.Step{Kind: api.StepRot, A: n, B: pos} }
func lose(n int) api.Step         { return api.Step{Kind: api.StepLose, A: n} }
func fuse(n int) api.Step         { return api.Step{Kind: api.StepFuse, A: n} }
func crash(keep, b int) api.Step  { return api.Step{Kind: api.StepCrash, A: keep, B: b} }
func only(kind int) api.Step      { return api.Step{Kind: kind} }
func number(kind, a int) api.Step { return api.Step{Kind: kind, A: a} }

// ticks performs so many ticks, each of which has to be OK.
func ticks(t *testing.T, a *arch.Arch, n int) {
	t.Helper()
	for range n {
		does(t, a, only(api.StepTick), api.OK)
	}
}

// settle ticks until the archive is at rest.
func settle(t *testing.T, a *arch.Arch) {
	t.Helper()
	for range 20000 {
		if a.Idle() {
			return
		}
		does(t, a, only(api.StepTick), api.OK)
	}
	t.Fatal("the archive does not come to rest")
}

// settled returns an archive at rest that has these blobs: key, data, key, data, ..
func settled(t *testing.T, c api.Config, blobs ...string) *arch.Arch {
	t.Helper()
	a := build(t, c)
	for i := 0; i < len(blobs); i += 2 {
		does(t, a, put(blobs[i], blobs[i+1]), api.OK)
		settle(t, a)
	}
	return a
}

// waits ticks until a ticket is no longer open, and returns how many ticks that took.
func waits(t *testing.T, a *arch.Arch, ticket int) int {
	t.Helper()
	for n := range 20000 {
		if a.Do(poll(ticket)).E != api.ErrOpen {
			return n
		}
		does(t, a, only(api.StepTick), api.OK)
	}
	t.Fatal("the ticket stays open")
	return 0
}

// entry returns the entry of a key, which must have one.
func entry(t *testing.T, a *arch.Arch, key string) api.Entry {
	t.Helper()
	e, ok := a.Cat().Entry(key)
	if !ok {
		t.Fatalf("%q has no entry", key)
	}
	return e
}

// recordsOf returns the records of a kind that can be read, as places and records.
func recordsOf(a *arch.Arch, kind int) (places []api.Place, records []api.Rec) {
	for n := range a.Lib().Carts() {
		for pos := range a.Lib().Cart(n).Len() {
			b, _ := a.Lib().Cart(n).Read(pos)
			if r, e := label.Decode(b); e == api.OK && r.Kind == kind {
				places, records = append(places, api.Place{Cart: n, Pos: pos}), append(records, r)
			}
		}
	}
	return places, records
}

// cartsOf returns the cartridges of places.
func cartsOf(places []api.Place) []int {
	var carts []int
	for _, at := range places {
		carts = append(carts, at.Cart)
	}
	return carts
}

// journal replaces what is on the disk by notes.
func journal(t *testing.T, a *arch.Arch, notes ...api.Note) {
	t.Helper()
	a.Disk().Wipe()
	j, _, e := jour.Open(a.Disk())
	if e != api.OK {
		t.Fatal(e)
	}
	if e := j.Swap(notes); e != api.OK {
		t.Fatal(e)
	}
}

// unchanged performs a step and checks that it changes neither the disk, nor the catalog, nor the records, nor the jobs.
func unchanged(t *testing.T, a *arch.Arch, x api.Step, e api.Errno) {
	t.Helper()
	disk, notes, jobs, state, records := a.Disk().Bytes(), a.Cat().Notes(), a.Jobs(), a.State(), 0
	for n := range a.Lib().Carts() {
		records += a.Lib().Cart(n).Len()
	}
	does(t, a, x, e)
	for n := range a.Lib().Carts() {
		records -= a.Lib().Cart(n).Len()
	}
	if !bytes.Equal(disk, a.Disk().Bytes()) || !slices.EqualFunc(notes, a.Cat().Notes(), jour.Same) || a.Jobs() != jobs || a.State() != state || records != 0 {
		t.Errorf("%+v changed the archive", x)
	}
}
