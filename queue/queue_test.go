package queue_test

import (
	"math"
	"math/rand"
	"slices"
	"testing"

	"kist/api"
	"kist/queue"
)

func ask(job, slot int) api.Ask {
	return api.Ask{Job: job, Op: api.Read, Cart: job % 7, Pos: slot * 3, Slot: slot, Born: job + slot}
}

// filled returns a queue of requests of these jobs, with the slots 0, 1, ..
func filled(t *testing.T, most int, jobs ...int) *queue.Queue {
	t.Helper()
	q := queue.New(most)
	for slot, job := range jobs {
		if !q.Push(ask(job, slot)) {
			t.Fatal("no room for", slot)
		}
	}
	return q
}

func holds(t *testing.T, q *queue.Queue, want ...api.Ask) {
	t.Helper()
	if got := q.All(); !slices.Equal(got, want) || q.Len() != len(want) {
		t.Errorf("holds %v, %d, want %v", got, q.Len(), want)
	}
}

func TestExample(t *testing.T) {
	q := filled(t, 2, 1, 2)
	if q.Push(ask(3, 2)) {
		t.Error("room for a third one")
	}
	holds(t, q, ask(1, 0), ask(2, 1))
	if n := q.Drop(1); n != 1 {
		t.Error(n)
	}
	if a, ok := q.Take(0); a != ask(2, 1) || !ok {
		t.Error(a, ok)
	}
	holds(t, q)
}

func TestCapacity(t *testing.T) {
	for most, want := range map[int]int{0: 0, -1: 0, math.MinInt: 0, 1: 1, 5: 5, 4096: 4096, 4097: 4096, math.MaxInt: 4096} {
		q := queue.New(most)
		count := 0
		for q.Push(ask(count, 0)) {
			count++
			if count > 5000 {
				break
			}
		}
		if count != want || q.Len() != want {
			t.Error(most, count, q.Len(), want)
		}
		if want > 0 {
			q.Take(0)
			if !q.Push(ask(0, 0)) || q.Push(ask(0, 0)) {
				t.Error(most, "a place that was left is not free again, once")
			}
		}
	}
}

func TestTake(t *testing.T) {
	q := filled(t, 9, 1, 2, 3, 4)
	for _, i := range []int{-1, 4, math.MinInt, math.MaxInt} {
		if a, ok := q.Take(i); a != (api.Ask{}) || ok {
			t.Error(i, a, ok)
		}
	}
	if a, ok := q.Take(1); a != ask(2, 1) || !ok {
		t.Error(a, ok)
	}
	holds(t, q, ask(1, 0), ask(3, 2), ask(4, 3))
	if a, ok := q.Take(2); a != ask(4, 3) || !ok {
		t.Error(a, ok)
	}
	holds(t, q, ask(1, 0), ask(3, 2))
}

func TestDrop(t *testing.T) {
	q := filled(t, 9, 1, 2, 1, 3, 1, 2)
	for _, c := range [][2]int{{9, 0}, {1, 3}, {1, 0}, {math.MinInt, 0}} {
		if n := q.Drop(c[0]); n != c[1] {
			t.Error(c, n)
		}
	}
	holds(t, q, ask(2, 1), ask(3, 3), ask(2, 5))
}

func TestAllIsACopy(t *testing.T) {
	q := filled(t, 9, 1, 2)
	list := q.All()
	list[0] = ask(9, 9)
	_ = append(list, ask(8, 8))
	q.Push(ask(3, 2))
	holds(t, q, ask(1, 0), ask(2, 1), ask(3, 2))
}

func TestNilQueue(t *testing.T) {
	var q *queue.Queue
	a, ok := q.Take(0)
	if q.Push(ask(1, 1)) || a != (api.Ask{}) || ok || q.Drop(1) != 0 || q.Len() != 0 || len(q.All()) != 0 {
		t.Error("a nil queue does something")
	}
}

func TestAgainstASlice(t *testing.T) {
	r := rand.New(rand.NewSource(1))
	q := queue.New(20)
	var want []api.Ask
	for n := range 3000 {
		switch r.Intn(4) {
		case 0:
			i := r.Intn(24) - 2
			a, ok := q.Take(i)
			if ok != (i >= 0 && i < len(want)) || ok && a != want[i] {
				t.Fatal(n, i, a, ok)
			}
			if ok {
				want = slices.Delete(want, i, i+1)
			}
		case 1:
			if r.Intn(4) == 0 {
				job := r.Intn(6)
				before := len(want)
				want = slices.DeleteFunc(want, func(a api.Ask) bool { return a.Job == job })
				if got := q.Drop(job); got != before-len(want) {
					t.Fatal(n, got)
				}
			}
		default:
			a := ask(r.Intn(6), n)
			if q.Push(a) != (len(want) < 20) {
				t.Fatal(n, len(want))
			}
			if len(want) < 20 {
				want = append(want, a)
			}
		}
		holds(t, q, want...)
	}
}
