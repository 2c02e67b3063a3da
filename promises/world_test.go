// Package promises tests what the document promises of several layers at once: it drives archives by random scripts.
package promises

import (
	"bytes"
	"math/rand"
	"slices"
	"testing"

	"kist/api"
	"kist/arch"
	"kist/check"
	"kist/label"
	"kist/model"
)

// doubt is an operation that was interrupted: it is in effect completely or not at all.
type doubt struct {
	key  string
	data []byte
	kind int
}

// world is an archive, and what it has to agree with.
type world struct {
	t       *testing.T
	r       *rand.Rand
	a       *arch.Arch
	m       *model.Model
	tickets map[int][]byte // the bytes of each ticket's blob when it was recalled
	gone    map[int]bool   // tickets that have to be cancelled
	doubts  []doubt
	damaged []int // cartridges that are lost or have unreadable records
}

func newWorld(t *testing.T, c api.Config, seed int64) *world {
	t.Helper()
	a, e := arch.New(c)
	if e != api.OK {
		t.Fatal(e)
	}
	return &world{t: t, r: rand.New(rand.NewSource(seed)), a: a, m: model.New(), tickets: map[int][]byte{}, gone: map[int]bool{}}
}

func (w *world) key() string {
	return string(rune('a' + w.r.Intn(7)))
}

func (w *world) data(most int) []byte {
	b := make([]byte, w.r.Intn(most+1))
	w.r.Read(b)
	return b
}

func (w *world) do(kind, a, b int) api.Answer {
	return w.a.Do(api.Step{Kind: kind, A: a, B: b})
}

func (w *world) put(key string, data []byte) {
	got := w.a.Do(api.Step{Kind: api.StepPut, Key: key, Data: data}).E
	switch got {
	case api.ErrDown:
		w.doubts = append(w.doubts, doubt{key, data, api.StepPut})
	case api.ErrFull:
	default:
		if want := w.m.Put(key, data); got != want {
			w.t.Fatalf("put %q: %d, want %d", key, got, want)
		}
	}
}

func (w *world) delete(key string) {
	got := w.a.Do(api.Step{Kind: api.StepDelete, Key: key}).E
	if got == api.ErrDown {
		w.doubts = append(w.doubts, doubt{key, nil, api.StepDelete})
		return
	}
	if want := w.m.Delete(key); got != want {
		w.t.Fatalf("delete %q: %d, want %d", key, got, want)
	}
}

func (w *world) recall(key string) {
	got := w.a.Do(api.Step{Kind: api.StepRecall, Key: key})
	want, ok := w.m.Get(key)
	switch got.E {
	case api.OK:
		w.tickets[got.N] = want
	case api.ErrNone:
		if ok {
			w.t.Fatalf("recall %q: no blob", key)
		}
	case api.ErrBusy, api.ErrDown:
	default:
		w.t.Fatalf("recall %q: %d", key, got.E)
	}
}

// fetchAll fetches whatever is not open. A blob may be lost only if more was damaged than the code bears.
func (w *world) fetchAll(mayBeLost bool) {
	for n, want := range w.tickets {
		got := w.do(api.StepFetch, n, 0)
		switch {
		case got.E == api.ErrOpen && !w.gone[n]:
			continue
		case got.E == api.OK && !w.gone[n]:
			if !bytes.Equal(got.Data, want) || got.N != len(want) {
				w.t.Fatalf("ticket %d: other bytes", n)
			}
		case got.E == api.ErrGone:
		case got.E == api.ErrLost && mayBeLost:
		default:
			w.t.Fatalf("ticket %d: %d", n, got.E)
		}
		delete(w.tickets, n)
	}
}

// crash cuts the power, and opens the archive again, which may be interrupted as well.
func (w *world) crash() {
	for n := range w.tickets {
		w.gone[n] = true
	}
	w.do(api.StepCrash, w.r.Intn(700), w.r.Intn(90)-10)
	for w.r.Intn(3) == 0 {
		w.do(api.StepFuse, w.r.Intn(2), 0)
		w.do(api.StepOpen, 0, 0)
		w.do(api.StepCrash, w.r.Intn(700), w.r.Intn(90)-10)
	}
	if got := w.do(api.StepOpen, 0, 0).E; got != api.OK {
		w.t.Fatalf("open: %d", got)
	}
	w.resolve()
	w.agrees()
}

// resolve finds out whether the interrupted operation took effect.
func (w *world) resolve() {
	for _, d := range w.doubts {
		has := slices.Contains(w.a.Keys(), d.key)
		_, had := w.m.Get(d.key)
		switch {
		case d.kind == api.StepPut && has && !had:
			w.m.Put(d.key, d.data)
		case d.kind == api.StepDelete && !has && had:
			w.m.Delete(d.key)
		}
	}
	w.doubts = nil
}

// agrees compares all blobs with those of the model.
func (w *world) agrees() {
	w.t.Helper()
	if !slices.Equal(w.a.Keys(), w.m.Keys()) {
		w.t.Fatalf("keys %q, want %q", w.a.Keys(), w.m.Keys())
	}
	for _, key := range w.m.Keys() {
		want, _ := w.m.Get(key)
		if got, e := check.Read(w.a, key); e != api.OK || !bytes.Equal(got, want) {
			w.t.Fatalf("%q: %d", key, e)
		}
	}
}

// settle ticks until the archive is at rest.
func (w *world) settle() {
	w.t.Helper()
	for n := 0; !w.a.Idle(); n++ {
		if got := w.do(api.StepTick, 0, 0).E; got != api.OK {
			w.t.Fatalf("tick: %d", got)
		}
		if n > 20000 {
			w.t.Fatal("the archive does not come to rest")
		}
	}
}

func (w *world) ticks(n int) {
	for range n {
		if w.do(api.StepTick, 0, 0).E == api.ErrDown {
			w.crash()
		}
	}
}

// damage loses one of the cartridges that may be damaged, or makes one of its records unreadable.
func (w *world) damage() {
	n := w.damaged[w.r.Intn(len(w.damaged))]
	if w.r.Intn(4) == 0 {
		w.do(api.StepLose, n, 0)
	} else if records := w.a.Lib().Cart(n).Len(); records > 0 {
		w.do(api.StepRot, n, w.r.Intn(records))
	}
}

// litter appends bytes that are no records, and a record that is torn.
func (w *world) litter() {
	n := w.r.Intn(w.a.Lib().Carts())
	b, _ := label.Encode(api.Rec{Kind: api.Tomb, Key: w.key(), Gen: 1 << 39})
	w.a.Lib().Cart(n).Append(b)
	w.a.Lib().Cart(n).Tear(w.r.Intn(len(b)))
	w.a.Lib().Cart(w.r.Intn(w.a.Lib().Carts())).Append([]byte("litter"))
}
