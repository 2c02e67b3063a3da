package promises

import (
	"bytes"
	"fmt"
	"math"
	"math/rand"
	"slices"
	"strings"
	"testing"

	"kist/api"
	"kist/arch"
	"kist/check"
	"kist/renew"
)

func config(drives int) api.Config {
	return api.Config{Carts: 16, Recs: 1000, Drives: drives, Quota: 3000, Cache: 300, Age: 40}
}

// client does what a client does.
func (w *world) client() {
	switch w.r.Intn(8) {
	case 0, 1, 2:
		w.put(w.key(), w.data(512))
	case 3:
		w.delete(w.key())
	case 4, 5, 6:
		w.recall(w.key())
	default:
		w.fetchAll(false)
	}
}

// TestRandomLives: clients, an operator, damage to two cartridges, power failures, and wipes at rest.
// It is about P1 (map semantics), P2 (durability), P3 (integrity), P4 (progress), P5 (recovery from cartridges) and P6 (repair).
func TestRandomLives(t *testing.T) {
	for seed := range int64(60) {
		t.Run(fmt.Sprint(seed), func(t *testing.T) {
			t.Parallel()
			w := newWorld(t, config(1+int(seed%4)), seed)
			w.damaged = w.r.Perm(16)[:2]
			for range 250 {
				w.live()
			}
			w.mend()
			w.settle()
			w.agrees()
			w.do(api.StepWipe, 0, 0)
			w.agrees()
		})
	}
}

// live does something at random.
func (w *world) live() {
	switch w.r.Intn(24) {
	case 0:
		w.do(api.StepFuse, w.r.Intn(8), 0)
	case 1:
		w.crash()
	case 2:
		w.damage()
	case 3:
		if w.a.State() == api.Up {
			w.do(api.StepCare, 0, 0)
		}
	case 4:
		w.do(api.StepBreak, w.r.Intn(4), 0)
	case 5:
		w.mend()
	case 6:
		if w.r.Intn(6) == 0 {
			w.do(api.StepRetire, w.damaged[w.r.Intn(2)], 0)
		}
	case 7:
		if w.r.Intn(3) == 0 {
			w.restAndWipe()
		}
	case 8, 9, 10, 11:
		w.ticks(w.r.Intn(90))
	default:
		w.client()
	}
	if w.a.State() == api.Stuck {
		w.crash()
	}
}

func (w *world) mend() {
	for d := range 4 {
		w.do(api.StepMend, d, 0)
	}
	w.do(api.StepFuse, 1<<40, 0)
}

func (w *world) restAndWipe() {
	w.mend()
	w.settle()
	w.litter()
	before := w.a.Cat()
	for n := range w.tickets {
		w.gone[n] = true
	}
	if got := w.do(api.StepWipe, 0, 0).E; got != api.OK {
		w.t.Fatalf("wipe: %d", got)
	}
	if !renew.Alike(before, w.a.Cat()) {
		w.t.Fatal("the wipe changed the blobs")
	}
	w.agrees()
	w.fetchAll(false)
	if len(w.tickets) != 0 {
		w.t.Fatal("the wipe left tickets open")
	}
}

// TestIntegrity: whatever is damaged, a fetch that is OK has the right bytes (P3).
func TestIntegrity(t *testing.T) {
	for seed := range int64(30) {
		t.Run(fmt.Sprint(seed), func(t *testing.T) {
			t.Parallel()
			w := newWorld(t, config(2), seed)
			w.damaged = w.r.Perm(16)
			for key := 'a'; key < 'h'; key++ {
				w.put(string(key), w.data(400))
			}
			w.settle()
			for range 300 {
				switch w.r.Intn(10) {
				case 0:
					w.damage()
				case 1:
					w.do(api.StepCare, 0, 0)
				case 2:
					w.litter()
				case 3, 4:
					w.recall(w.key())
				default:
					w.ticks(w.r.Intn(60))
				}
				w.fetchAll(true)
			}
			for _, key := range w.m.Keys() {
				want, _ := w.m.Get(key)
				if got, e := check.Read(w.a, key); e == api.OK && !bytes.Equal(got, want) {
					t.Errorf("%q has other bytes", key)
				}
			}
		})
	}
}

// TestRepair: after a care every group is whole again (P6).
func TestRepair(t *testing.T) {
	for seed := range int64(40) {
		w := newWorld(t, config(2), seed)
		for key := 'a'; key < 'h'; key++ {
			w.put(string(key), w.data(512))
		}
		w.settle()
		w.damaged = w.r.Perm(16)[:2]
		for range 1 + w.r.Intn(30) {
			w.damage()
		}
		w.do(api.StepRetire, w.r.Intn(16), 0)
		if check.Faults(w.a) > 2 {
			t.Fatal(seed, check.Faults(w.a))
		}
		w.do(api.StepCare, 0, 0)
		w.settle()
		if !check.Whole(w.a) || check.Faults(w.a) != 0 {
			t.Error(seed, check.Faults(w.a))
		}
		w.agrees()
	}
}

// TestEveryPowerFailure cuts the power after each operation of the disk, with every length of what is kept (P2).
func TestEveryPowerFailure(t *testing.T) {
	for allowed := range 14 {
		for _, keep := range []int{0, 1, 7, 8, 20, 40, 41, 42, 43, 44, 60, 100, 700} {
			for _, again := range []bool{false, true} {
				w := newWorld(t, config(1), int64(allowed))
				w.put("a", []byte("first"))
				w.settle()
				w.recall("a")
				w.do(api.StepFuse, allowed, 0)
				w.put("b", []byte("second"))
				w.delete("a")
				for range 40 {
					w.do(api.StepTick, 0, 0)
				}
				w.put("c", []byte("third"))
				w.do(api.StepCrash, keep, 0)
				w.do(api.StepOpen, 0, 0)
				if again {
					keys := w.a.Keys()
					w.do(api.StepCrash, 0, 0)
					w.do(api.StepOpen, 0, 0)
					if !slices.Equal(keys, w.a.Keys()) {
						t.Fatal("recovering twice differs:", keys, w.a.Keys())
					}
				}
				w.resolve()
				w.agrees()
				if got := w.do(api.StepFetch, 1, 0).E; got != api.ErrGone {
					t.Fatal("the ticket was not cancelled:", got)
				}
				w.settle()
				w.agrees()
				w.do(api.StepWipe, 0, 0)
				w.agrees()
			}
		}
	}
}

// TestTransparency: drives, age and cache change neither answers nor blobs (P8).
func TestTransparency(t *testing.T) {
	for seed := range int64(10) {
		var first string
		for i, c := range []api.Config{
			{Drives: 1}, {Drives: 2}, {Drives: 4, Age: 3}, {Drives: 3, Age: 1024, Cache: 1 << 15}, {Drives: 1, Cache: 600}, {},
		} {
			c.Carts, c.Recs, c.Quota = 14, 1000, 1<<15
			told := life(t, c, seed)
			if i == 0 {
				first = told
			} else if told != first {
				t.Error(seed, c, "gives other answers or blobs")
			}
		}
	}
}

// life returns the answers to puts and deletes, and all blobs at the end.
func life(t *testing.T, c api.Config, seed int64) string {
	w := newWorld(t, c, seed)
	var told strings.Builder
	for range 300 {
		x := api.Step{Kind: []int{api.StepPut, api.StepPut, api.StepDelete, api.StepRecall, api.StepCare}[w.r.Intn(5)]}
		if x.Kind != api.StepCare {
			x.Key = w.key()
		}
		if x.Kind == api.StepPut {
			x.Data = w.data(520)
		}
		got := w.a.Do(x)
		if x.Kind == api.StepPut || x.Kind == api.StepDelete {
			fmt.Fprintln(&told, x.Kind, got)
		}
		w.ticks(w.r.Intn(30))
		w.do(api.StepFetch, w.r.Intn(40), 0)
	}
	for _, key := range w.a.Keys() {
		data, e := check.Read(w.a, key)
		fmt.Fprintf(&told, "%q %d %q\n", key, e, data)
	}
	return told.String()
}

// TestAFullLibrary keeps the staged blobs, and continues when cartridges are added (P7).
func TestAFullLibrary(t *testing.T) {
	c := config(2)
	c.Carts, c.Recs = 10, 5
	w := newWorld(t, c, 1)
	for key := 'a'; key < 'h'; key++ {
		w.put(string(key), w.data(300))
	}
	w.ticks(3000)
	if w.a.Idle() || w.a.Jobs() != 0 {
		t.Error("the library is not full")
	}
	w.agrees()
	for key := 'a'; key < 'h'; key++ {
		w.recall(string(key))
	}
	w.ticks(3000)
	w.fetchAll(false)
	if len(w.tickets) != 0 {
		t.Error("tickets stay open")
	}
	for range 20 {
		w.do(api.StepAdd, 0, 0)
	}
	w.settle()
	w.agrees()
	if len(w.a.Cat().Staged()) != 0 || !check.Whole(w.a) {
		t.Error("the staged blobs were not written")
	}
}

// TestRefusedStepsChangeNothing compares an archive with one that got no refused steps (P7).
func TestRefusedStepsChangeNothing(t *testing.T) {
	refused := []api.Step{
		{Kind: api.StepPut}, {Kind: api.StepPut, Key: "a"}, {Kind: api.StepPut, Key: "z", Data: make([]byte, 513)}, {Kind: api.StepDelete, Key: "z"},
		{Kind: api.StepRecall, Key: "z"}, {Kind: api.StepPoll, A: 99}, {Kind: api.StepFetch, A: 99}, {Kind: api.StepRetire, A: 16}, {Kind: api.StepStatus, Key: "z"},
		{Kind: api.StepRot, A: 3, B: 900}, {Kind: api.StepLose, A: 16}, {Kind: api.StepBreak, A: 2}, {Kind: api.StepMend, A: 0}, {Kind: api.StepOpen}, {Kind: 0}, {Kind: 20},
	}
	steps := []api.Step{
		{Kind: api.StepPut, Key: "a", Data: []byte("first")}, {Kind: api.StepTick}, {Kind: api.StepPut, Key: "b", Data: []byte("second")}, {Kind: api.StepCare},
		{Kind: api.StepRecall, Key: "b"}, {Kind: api.StepTick}, {Kind: api.StepTick},
	}
	plain, tried := newWorld(t, config(2), 1), newWorld(t, config(2), 1)
	for n := range 400 {
		x := steps[min(n, len(steps)-1)]
		if n == 100 {
			x = api.Step{Kind: api.StepRecall, Key: "a"}
		}
		for _, y := range refused {
			if n == 0 && y.Key == "a" {
				continue
			}
			if got := tried.a.Do(y); got.E == api.OK || got.N != 0 || len(got.Data) != 0 {
				t.Fatalf("%+v: %+v", y, got)
			}
		}
		if got, want := tried.a.Do(x), plain.a.Do(x); got.E != want.E || got.N != want.N {
			t.Fatalf("step %d: %+v, want %+v", n, got, want)
		}
		same(t, tried.a, plain.a)
	}
}

// same compares all that can be seen of two archives.
func same(t *testing.T, a, b *arch.Arch) {
	t.Helper()
	if !bytes.Equal(a.Disk().Bytes(), b.Disk().Bytes()) || !slices.Equal(a.Keys(), b.Keys()) || !slices.Equal(a.Held(), b.Held()) ||
		a.Jobs() != b.Jobs() || a.State() != b.State() || a.Idle() != b.Idle() {
		t.Fatal("the archives differ")
	}
	for d := range a.Lib().Drives() {
		n, pos, _ := a.Lib().Drive(d)
		if otherN, otherPos, _ := b.Lib().Drive(d); n != otherN || pos != otherPos {
			t.Fatal("the drives differ")
		}
	}
	for n := range a.Lib().Carts() {
		if a.Lib().Cart(n).Len() != b.Lib().Cart(n).Len() {
			t.Fatal("the cartridges differ")
		}
	}
}

// TestDeterminism: the same steps have the same answers (R5).
func TestDeterminism(t *testing.T) {
	for seed := range int64(5) {
		c := api.Config{Carts: 14, Recs: 1000, Drives: 2, Quota: 4000, Cache: 900, Age: 20}
		if life(t, c, seed) != life(t, c, seed) {
			t.Error(seed)
		}
	}
}

// TestALifeWithoutFaults: the answers are those of the model, whatever the ticks do (P1).
func TestALifeWithoutFaults(t *testing.T) {
	w := newWorld(t, config(2), 7)
	for range 500 {
		w.client()
		w.ticks(w.r.Intn(40))
	}
	w.agrees()
}

// TestAnyStep: steps with any numbers, keys and bytes, in any order, on any small archive (R1, R7).
func TestAnyStep(t *testing.T) {
	for seed := range int64(300) {
		r := rand.New(rand.NewSource(seed))
		a, _ := arch.New(api.Config{Carts: r.Intn(33), Recs: r.Intn(9), Drives: r.Intn(5), Quota: r.Intn(600), Cache: r.Intn(99), Age: r.Intn(9)})
		number := func() int {
			return []int{math.MinInt, math.MaxInt, -1, 0, 1, 2, 3, r.Intn(40), r.Intn(2000), int(r.Uint64())}[r.Intn(10)]
		}
		for range 300 {
			x := api.Step{Kind: r.Intn(21), A: number(), B: number(), Key: strings.Repeat("k", r.Intn(18))}
			if r.Intn(2) == 0 {
				x.Kind = api.StepTick
			}
			if r.Intn(3) > 0 {
				x.Data = make([]byte, r.Intn(200))
			}
			got := a.Do(x)
			if got.E != api.OK && (got.N != 0 || len(got.Data) != 0) {
				t.Fatalf("%+v: %+v", x, got)
			}
		}
	}
}
