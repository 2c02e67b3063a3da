package plan_test

import (
	"bytes"
	"math"
	"math/rand"
	"slices"
	"testing"

	"kist/api"
	"kist/blob"
	"kist/plan"
)

// stored returns the entry, the records and the bytes of a blob of size bytes.
func stored(t *testing.T, size int) (api.Entry, []api.Rec, []byte) {
	t.Helper()
	data := make([]byte, size)
	rand.New(rand.NewSource(int64(size))).Read(data)
	records, err := blob.Records("key", 7, data)
	if err != api.OK {
		t.Fatal(err)
	}
	e := api.Entry{Key: "key", Gen: 7, Size: size, Sum: records[0].Sum, Places: make([]api.Place, len(records))}
	return e, records, data
}

func shardsOf(records []api.Rec) [][]byte {
	var shards [][]byte
	for _, r := range records {
		shards = append(shards, slices.Clone(r.Data))
	}
	return shards
}

func places(n int) api.Entry {
	return api.Entry{Places: make([]api.Place, n)}
}

// marks returns a list of bools in which these are true.
func marks(length int, slots ...int) []bool {
	list := make([]bool, length)
	for _, slot := range slots {
		list[slot] = true
	}
	return list
}

func TestGoodIsTrueForTheSlotOnly(t *testing.T) {
	for _, size := range []int{0, 128, 300, 512} {
		e, records, _ := stored(t, size)
		for slot := -1; slot <= len(records); slot++ {
			for i, r := range records {
				if got := plan.Good(e, slot, r); got != (slot == i) {
					t.Fatal(size, slot, i, got)
				}
			}
		}
		for _, slot := range []int{math.MinInt, math.MaxInt} {
			if plan.Good(e, slot, records[0]) {
				t.Error(slot)
			}
		}
	}
}

func TestGoodComparesEveryField(t *testing.T) {
	e, records, _ := stored(t, 300)
	for i, change := range []func(r *api.Rec){
		func(r *api.Rec) { r.Kind = api.Tomb }, func(r *api.Rec) { r.Kind = 0 }, func(r *api.Rec) { r.Key = "kez" }, func(r *api.Rec) { r.Gen++ },
		func(r *api.Rec) { r.Size++ }, func(r *api.Rec) { r.Sum = r.Sum[1:] + "x" }, func(r *api.Rec) { r.Group-- }, func(r *api.Rec) { r.Index++ },
		func(r *api.Rec) { r.Groups++ }, func(r *api.Rec) { r.Data = r.Data[:15] }, func(r *api.Rec) { r.Data = make([]byte, 17) }, func(r *api.Rec) { r.Data = nil },
		func(r *api.Rec) { *r = api.Rec{} },
	} {
		r := records[14]
		if !plan.Good(e, 14, r) {
			t.Fatal("the record itself is not good")
		}
		change(&r)
		if plan.Good(e, 14, r) {
			t.Error("change", i, "makes no difference")
		}
	}
}

// TestGoodOfAnIncompleteGroup: a tenth of the number of places is rounded down.
func TestGoodOfAnIncompleteGroup(t *testing.T) {
	e, records, _ := stored(t, 300)
	e.Places = append(e.Places, api.Place{})
	if !plan.Good(e, 29, records[29]) {
		t.Error("31 places are three groups")
	}
	e.Places = e.Places[:29]
	r := records[28]
	if plan.Good(e, 28, r) {
		t.Error("29 places are two groups")
	}
	r.Groups = 2
	if !plan.Good(e, 28, r) {
		t.Error("slot 28 of 29 places exists")
	}
}

func TestFirst(t *testing.T) {
	for name, c := range map[string]struct {
		places int
		bad    []bool
		want   []int
		ok     bool
	}{
		"none bad":             {10, nil, []int{0, 1, 2, 3, 4, 5, 6, 7}, true},
		"one bad":              {10, marks(3, 2), []int{0, 1, 3, 4, 5, 6, 7, 8}, true},
		"two bad":              {10, marks(10, 0, 7), []int{1, 2, 3, 4, 5, 6, 8, 9}, true},
		"bad ones at the end":  {10, marks(10, 8, 9), []int{0, 1, 2, 3, 4, 5, 6, 7}, true},
		"three bad":            {10, marks(3, 0, 1, 2), nil, false},
		"two groups":           {20, marks(12, 0, 11), []int{1, 2, 3, 4, 5, 6, 7, 8, 10, 12, 13, 14, 15, 16, 17, 18}, true},
		"three bad of another": {20, marks(20, 17, 18, 19), nil, false},
		"two bad of each":      {20, marks(20, 0, 9, 10, 19), []int{1, 2, 3, 4, 5, 6, 7, 8, 11, 12, 13, 14, 15, 16, 17, 18}, true},
		"no places":            {0, nil, nil, false},
		"no complete group":    {9, nil, nil, false},
		"remaining places":     {19, marks(19, 10, 11, 12, 13), []int{0, 1, 2, 3, 4, 5, 6, 7}, true},
		"a list that is long":  {10, marks(50, 10, 49), []int{0, 1, 2, 3, 4, 5, 6, 7}, true},
		"more than four":       {50, marks(41, 40), append(append(seq(0, 8), append(seq(10, 8), seq(20, 8)...)...), append(seq(30, 8), seq(41, 8)...)...), true},
	} {
		got, ok := plan.First(places(c.places), c.bad)
		if ok != c.ok || !slices.Equal(got, c.want) || !ok && got != nil {
			t.Errorf("%s: %v, %v, want %v, %v", name, got, ok, c.want, c.ok)
		}
	}
}

func seq(from, count int) []int {
	var list []int
	for n := range count {
		list = append(list, from+n)
	}
	return list
}

func TestMore(t *testing.T) {
	for name, c := range map[string]struct {
		places int
		asked  []bool
		slot   int
		want   int
		ok     bool
	}{
		"example":                     {10, marks(10, 0, 1, 2, 3, 4, 5, 6, 7, 9), 5, 8, true},
		"none asked":                  {10, nil, 5, 0, true},
		"all asked":                   {10, marks(10, seq(0, 10)...), 5, 0, false},
		"its own group":               {20, marks(20, 10, 11), 15, 12, true},
		"all of its own group":        {20, marks(20, seq(10, 10)...), 15, 0, false},
		"first of its group":          {20, marks(20, seq(0, 10)...), 10, 10, true},
		"last of its group":           {20, marks(20, seq(0, 9)...), 0, 9, true},
		"an incomplete group":         {12, marks(11, 10), 10, 11, true},
		"all of an incomplete group":  {12, marks(12, 10, 11), 11, 0, false},
		"a slot that is not there":    {10, nil, 10, 0, false},
		"of an incomplete group":      {12, nil, 12, 0, false},
		"a negative slot":             {10, nil, -1, 0, false},
		"an extreme slot":             {10, nil, math.MinInt, 0, false},
		"another extreme slot":        {10, nil, math.MaxInt, 0, false},
		"no places":                   {0, nil, 0, 0, false},
		"missing elements are false":  {10, marks(3, 0, 1, 2), 9, 3, true},
		"a slot that is itself asked": {10, marks(10, 0, 1), 0, 2, true},
	} {
		if got, ok := plan.More(places(c.places), c.asked, c.slot); got != c.want || ok != c.ok {
			t.Errorf("%s: %d, %v, want %d, %v", name, got, ok, c.want, c.ok)
		}
	}
}

func TestWhole(t *testing.T) {
	r := rand.New(rand.NewSource(1))
	for _, size := range []int{0, 1, 127, 128, 129, 300, 512} {
		e, records, data := stored(t, size)
		for range 20 {
			shards := shardsOf(records)
			for start := 0; start < len(shards); start += 10 {
				for _, i := range r.Perm(10)[:r.Intn(3)] {
					shards[start+i] = nil
				}
			}
			got, err := plan.Whole(e, shards)
			if err != api.OK || !bytes.Equal(got, data) {
				t.Fatal(size, got, err)
			}
		}
	}
}

func wholeFails(t *testing.T, name string, e api.Entry, shards [][]byte, want api.Errno) {
	t.Helper()
	if got, err := plan.Whole(e, shards); got != nil || err != want {
		t.Errorf("%s: %v, %d, want error %d", name, got, err, want)
	}
}

func TestWholeChecksItsShards(t *testing.T) {
	e, records, _ := stored(t, 200)
	shards := shardsOf(records)
	wholeFails(t, "none", e, nil, api.ErrArg)
	wholeFails(t, "none of none", api.Entry{}, nil, api.ErrArg)
	wholeFails(t, "too few", e, shards[:10], api.ErrArg)
	wholeFails(t, "too many", e, append(slices.Clone(shards), shards[:10]...), api.ErrArg)
	wholeFails(t, "no multiple of ten", places(15), shards[:15], api.ErrArg)
	lacking := slices.Clone(shards)
	lacking[10], lacking[15], lacking[19] = nil, nil, nil
	wholeFails(t, "seven of a group", e, lacking, api.ErrLost)
	short := slices.Clone(shards)
	short[19] = short[19][:15]
	wholeFails(t, "a short one", e, short, api.ErrArg)
	both := slices.Clone(lacking)
	both[0] = both[0][:15]
	wholeFails(t, "the first error is that of the first group", e, both, api.ErrArg)
	both = slices.Clone(short)
	both[0], both[1], both[2] = nil, nil, nil
	wholeFails(t, "the first error is that of the first group", e, both, api.ErrLost)
}

func TestWholeChecksTheBlob(t *testing.T) {
	e, records, _ := stored(t, 200)
	shards := shardsOf(records)
	for name, change := range map[string]func(e *api.Entry){
		"another size":   func(e *api.Entry) { e.Size = 201 },
		"too small":      func(e *api.Entry) { e.Size = 128 },
		"too large":      func(e *api.Entry) { e.Size = 257 },
		"no size":        func(e *api.Entry) { e.Size = -1 },
		"extreme size":   func(e *api.Entry) { e.Size = math.MaxInt },
		"another digest": func(e *api.Entry) { e.Sum = e.Sum[1:] + "x" },
		"no digest":      func(e *api.Entry) { e.Sum = "" },
	} {
		changed := e
		change(&changed)
		wholeFails(t, name, changed, shards, api.ErrLost)
	}
	shards[3][5]++
	wholeFails(t, "a damaged shard", e, shards, api.ErrLost)
	shards[3] = nil
	if _, err := plan.Whole(e, shards); err != api.OK {
		t.Error(err)
	}
	wholeFails(t, "five groups", places(50), make([][]byte, 50), api.ErrLost)
}
