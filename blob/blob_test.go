package blob_test

import (
	"bytes"
	"crypto/sha256"
	"math"
	"math/rand"
	"slices"
	"strings"
	"testing"

	"kist/api"
	"kist/blob"
	"kist/label"
	"kist/rs"
)

func data(size int) []byte {
	b := make([]byte, size)
	rand.New(rand.NewSource(int64(size))).Read(b)
	return b
}

func TestGroups(t *testing.T) {
	for size := range 513 {
		want := (size + 127) / 128
		if size == 0 {
			want = 1
		}
		if got := blob.Groups(size); got != want {
			t.Error(size, got, want)
		}
	}
	for _, size := range []int{-1, 513, math.MinInt, math.MaxInt} {
		if got := blob.Groups(size); got != 0 {
			t.Error(size, got)
		}
	}
}

func TestSplitAndJoin(t *testing.T) {
	for size := range 513 {
		b := data(size)
		old := slices.Clone(b)
		groups := blob.Split(b)
		if len(groups) != blob.Groups(size) {
			t.Fatal(size, len(groups))
		}
		padded := slices.Concat(groups...)
		if !bytes.Equal(padded[:size], b) || !bytes.Equal(padded[size:], make([]byte, len(padded)-size)) {
			t.Fatal(size, groups)
		}
		for _, group := range groups {
			if len(group) != 128 {
				t.Fatal(size, len(group))
			}
		}
		got, ok := blob.Join(groups, size)
		if !ok || !bytes.Equal(got, b) {
			t.Fatal(size, got, ok)
		}
		for i := range got {
			got[i]++
		}
		for _, group := range groups {
			_ = append(group, 1)
		}
		if !bytes.Equal(slices.Concat(groups...), padded) {
			t.Fatal(size, "memory is shared")
		}
		groups[0][0]++
		if !bytes.Equal(b, old) {
			t.Fatal(size, "Split returns its argument")
		}
	}
	for _, size := range []int{513, 1000} {
		if groups := blob.Split(data(size)); len(groups) != 0 {
			t.Error(size, len(groups))
		}
	}
	if groups := blob.Split(nil); len(groups) != 1 || !bytes.Equal(groups[0], make([]byte, 128)) {
		t.Error(groups)
	}
}

func TestJoinHidesThePadding(t *testing.T) {
	got, _ := blob.Join([][]byte{bytes.Repeat([]byte{7}, 128)}, 3)
	for _, x := range got[:cap(got)][3:] {
		if x != 0 {
			t.Error("the memory behind the blob has its padding")
		}
	}
}

func TestJoinRefusesOtherGroups(t *testing.T) {
	group := make([]byte, 128)
	for name, c := range map[string]struct {
		groups [][]byte
		size   int
	}{
		"no groups":          {nil, 0},
		"none of no size":    {[][]byte{}, -1},
		"none, too large":    {nil, 513},
		"too few":            {[][]byte{group}, 129},
		"too many":           {[][]byte{group, group}, 128},
		"two of none":        {[][]byte{group, group}, 0},
		"negative size":      {[][]byte{group}, -1},
		"five":               {[][]byte{group, group, group, group, group}, 513},
		"short group":        {[][]byte{group[:127]}, 1},
		"short last group":   {[][]byte{group, group[:127]}, 200},
		"long group":         {[][]byte{make([]byte, 129)}, 1},
		"short and long":     {[][]byte{make([]byte, 129), group[:127]}, 200},
		"empty group":        {[][]byte{nil}, 0},
		"extreme size":       {[][]byte{group}, math.MaxInt},
		"other extreme size": {[][]byte{group}, math.MinInt},
	} {
		if got, ok := blob.Join(c.groups, c.size); got != nil || ok {
			t.Error(name, got, ok)
		}
	}
}

func TestRecords(t *testing.T) {
	for _, size := range []int{0, 1, 128, 129, 130, 256, 257, 511, 512} {
		b := data(size)
		records, e := blob.Records("key", 300, b)
		if e != api.OK || len(records) != 10*blob.Groups(size) {
			t.Fatal(size, e, len(records))
		}
		digest := sha256.Sum256(b)
		groups := blob.Split(b)
		for i, r := range records {
			shards, _ := rs.Encode(groups[i/10])
			want := api.Rec{
				Kind: api.Shard, Key: "key", Gen: 300, Group: i / 10, Groups: len(groups), Index: i % 10, Size: size,
				Sum: string(digest[:]), Data: shards[i%10],
			}
			if !label.Same(r, want) || !label.Good(r) {
				t.Fatalf("%d: record %d is %+v, want %+v", size, i, r, want)
			}
		}
		records[0].Data[0]++
		_ = append(records[0].Data, 1)
		if again, _ := blob.Records("key", 300, b); !label.Same(records[1], again[1]) || !bytes.Equal(b, data(size)) {
			t.Fatal(size, "memory is shared")
		}
	}
	if records, _ := blob.Records("a", 1, make([]byte, 130)); len(records) != 20 {
		t.Error(len(records))
	}
}

func TestRecordsMustBeValid(t *testing.T) {
	for name, c := range map[string]struct {
		key  string
		gen  int
		size int
	}{
		"no key": {"", 1, 1}, "long key": {strings.Repeat("k", 17), 1, 1}, "negative Gen": {"a", -1, 1}, "late Gen": {"a", 1<<40 + 1, 1},
		"large": {"a", 1, 513}, "very large": {"a", 1, 5000}, "extreme Gen": {"a", math.MaxInt, 1}, "other extreme Gen": {"a", math.MinInt, 1},
	} {
		if records, e := blob.Records(c.key, c.gen, data(c.size)); records != nil || e != api.ErrForm {
			t.Error(name, len(records), e)
		}
	}
	for _, gen := range []int{0, 1 << 40} {
		if _, e := blob.Records(strings.Repeat("k", 16), gen, nil); e != api.OK {
			t.Error(gen, e)
		}
	}
}
