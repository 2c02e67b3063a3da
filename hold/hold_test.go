package hold_test

import (
	"math"
	"math/rand"
	"slices"
	"testing"

	"kist/hold"
)

func puts(t *testing.T, h *hold.Hold, key, data string, want bool) {
	t.Helper()
	if ok := h.Put(key, []byte(data)); ok != want {
		t.Errorf("Put(%q, %q) = %v", key, data, ok)
	}
}

func gets(t *testing.T, h *hold.Hold, key, want string) {
	t.Helper()
	if b, ok := h.Get(key); string(b) != want || !ok {
		t.Errorf("Get(%q) = %q, %v, want %q", key, b, ok, want)
	}
}

func lacks(t *testing.T, h *hold.Hold, key string) {
	t.Helper()
	if b, ok := h.Get(key); b != nil || ok {
		t.Errorf("Get(%q) = %q, %v", key, b, ok)
	}
}

func holds(t *testing.T, h *hold.Hold, used int, keys ...string) {
	t.Helper()
	if got := h.Keys(); !slices.Equal(got, keys) || h.Used() != used {
		t.Errorf("holds %q, %d, want %q, %d", got, h.Used(), keys, used)
	}
}

func TestExample(t *testing.T) {
	h := hold.New(5)
	holds(t, h, 0)
	puts(t, h, "a", "xxx", true)
	puts(t, h, "b", "yy", true)
	gets(t, h, "a", "xxx")
	puts(t, h, "c", "z", true)
	holds(t, h, 4, "a", "c")
	puts(t, h, "a", "xxxxxx", false)
	holds(t, h, 1, "c")
}

func TestLimits(t *testing.T) {
	for quota, want := range map[int]int{0: 0, -1: 0, math.MinInt: 0, 7: 7, 1 << 15: 1 << 15, 1<<15 + 1: 1 << 15, math.MaxInt: 1 << 15} {
		h := hold.New(quota)
		if h.Put("a", make([]byte, want+1)) {
			t.Error(quota, "takes", want+1)
		}
		if !h.Put("b", make([]byte, want)) || h.Used() != want {
			t.Error(quota, "does not take", want)
		}
	}
}

func TestPutReplaces(t *testing.T) {
	h := hold.New(10)
	puts(t, h, "a", "xxx", true)
	puts(t, h, "b", "y", true)
	puts(t, h, "a", "zz", true)
	holds(t, h, 3, "b", "a")
	gets(t, h, "a", "zz")
	puts(t, h, "b", "0123456789", true) // its old byte makes room, and then "a" has to go
	holds(t, h, 10, "b")
	puts(t, h, "b", "9876543210", true)
	gets(t, h, "b", "9876543210")
}

func TestReplacingEvictsNoMoreThanNeeded(t *testing.T) {
	h := hold.New(10)
	puts(t, h, "a", "aaaa", true)
	puts(t, h, "b", "bbbbbb", true)
	puts(t, h, "b", "cccccc", true)
	holds(t, h, 10, "a", "b")
}

func TestEvictionIsInTheOrderOfUse(t *testing.T) {
	h := hold.New(4)
	for _, key := range []string{"a", "b", "c", "d"} {
		puts(t, h, key, "x", true)
	}
	gets(t, h, "b", "x")
	gets(t, h, "a", "x")
	holds(t, h, 4, "c", "d", "b", "a")
	puts(t, h, "e", "yyy", true)
	holds(t, h, 4, "a", "e")
	lacks(t, h, "b")
	holds(t, h, 4, "a", "e")
}

func TestEmptyEntries(t *testing.T) {
	h := hold.New(2)
	puts(t, h, "", "", true)
	puts(t, h, "a", "xx", true)
	puts(t, h, "b", "", true)
	holds(t, h, 2, "", "a", "b")
	gets(t, h, "", "")
	holds(t, h, 2, "a", "b", "")
	puts(t, h, "c", "y", true)
	holds(t, h, 1, "b", "", "c")
	puts(t, h, "d", "yy", true) // the empty ones are older than "c"
	holds(t, h, 2, "d")
	h = hold.New(0)
	puts(t, h, "a", "", true)
	puts(t, h, "b", "", true)
	puts(t, h, "a", "x", false)
	holds(t, h, 0, "b")
}

func TestDrop(t *testing.T) {
	h := hold.New(9)
	puts(t, h, "a", "x", true)
	puts(t, h, "b", "yy", true)
	puts(t, h, "c", "zzz", true)
	if h.Drop("d") || !h.Drop("b") || h.Drop("b") {
		t.Error("Drop")
	}
	holds(t, h, 4, "a", "c")
	lacks(t, h, "b")
	if !h.Drop("c") || !h.Drop("a") {
		t.Error("Drop")
	}
	holds(t, h, 0)
	puts(t, h, "a", "x", true)
	holds(t, h, 1, "a")
}

func TestKeysMayBeAnyString(t *testing.T) {
	h := hold.New(9)
	long := string(make([]byte, 1000)) + "\xff"
	puts(t, h, long, "x", true)
	gets(t, h, long, "x")
	lacks(t, h, long[1:])
}

func TestBytesAreCopied(t *testing.T) {
	h := hold.New(9)
	b := []byte("abc")
	h.Put("a", b)
	b[0] = 'z'
	got, _ := h.Get("a")
	got[1] = 'z'
	_ = append(got, 'z')
	gets(t, h, "a", "abc")
}

func TestNilHold(t *testing.T) {
	var h *hold.Hold
	puts(t, h, "a", "", false)
	lacks(t, h, "a")
	if h.Drop("a") {
		t.Error("Drop")
	}
	holds(t, h, 0)
}

func TestAgainstASlice(t *testing.T) {
	type item struct{ key, data string }
	r := rand.New(rand.NewSource(1))
	h := hold.New(12)
	var want []item
	remove := func(key string) (item, bool) {
		i := slices.IndexFunc(want, func(x item) bool { return x.key == key })
		if i < 0 {
			return item{}, false
		}
		x := want[i]
		want = slices.Delete(want, i, i+1)
		return x, true
	}
	for range 5000 {
		key := string("abcdefgh"[r.Intn(8)])
		switch r.Intn(5) {
		case 0:
			_, ok := remove(key)
			if h.Drop(key) != ok {
				t.Fatal("Drop", key, ok)
			}
		case 1, 2:
			x, ok := remove(key)
			if ok {
				want = append(want, x)
				gets(t, h, key, x.data)
			} else {
				lacks(t, h, key)
			}
		default:
			data := "0123456789abcd"[:r.Intn(15)]
			remove(key)
			puts(t, h, key, data, len(data) <= 12)
			if len(data) <= 12 {
				want = append(want, item{key, data})
			}
			for total := 99; total > 12; {
				total = 0
				for _, x := range want {
					total += len(x.data)
				}
				if total > 12 {
					want = want[1:]
				}
			}
		}
		used := 0
		var keys []string
		for _, x := range want {
			used, keys = used+len(x.data), append(keys, x.key)
		}
		holds(t, h, used, keys...)
	}
}
