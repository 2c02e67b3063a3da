package label_test

import (
	"bytes"
	"math"
	"math/rand"
	"slices"
	"strings"
	"testing"

	"kist/api"
	"kist/label"
	"kist/sum"
)

func cartLabel(n int) api.Rec {
	return api.Rec{Kind: api.Label, Cart: n}
}

func tomb(key string, gen int) api.Rec {
	return api.Rec{Kind: api.Tomb, Key: key, Gen: gen}
}

func shard(size int) api.Rec {
	groups := max(1, (size+127)/128)
	return api.Rec{
		Kind: api.Shard, Key: "key", Gen: 300, Group: groups - 1, Groups: groups, Index: 9, Size: size,
		Sum: strings.Repeat("s", 32), Data: bytes.Repeat([]byte("d"), 16),
	}
}

func with(r api.Rec, change func(r *api.Rec)) api.Rec {
	r.Data = slices.Clone(r.Data)
	change(&r)
	return r
}

func validRecords() []api.Rec {
	list := []api.Rec{
		cartLabel(0), cartLabel(5), cartLabel(31), tomb("a", 0), tomb("a", 1<<40), tomb(strings.Repeat("\xff", 16), 128),
		with(cartLabel(3), func(r *api.Rec) { r.Data = []byte{} }), with(tomb("a", 1), func(r *api.Rec) { r.Data = []byte{} }),
	}
	for _, size := range []int{0, 1, 127, 128, 129, 256, 257, 384, 385, 511, 512} {
		list = append(list, shard(size), with(shard(size), func(r *api.Rec) { r.Group, r.Index, r.Gen, r.Key = 0, 0, 0, "\x00" }))
	}
	return append(list, with(shard(512), func(r *api.Rec) { r.Gen, r.Key = 1<<40, strings.Repeat("k", 16) }))
}

func invalidRecords() []api.Rec {
	list := []api.Rec{
		{}, {Kind: 4}, {Kind: -1}, {Kind: math.MaxInt}, {Kind: 257, Cart: 5}, cartLabel(-1), cartLabel(32), cartLabel(math.MaxInt), cartLabel(math.MinInt),
		tomb("", 1), tomb(strings.Repeat("k", 17), 1), tomb("a", -1), tomb("a", 1<<40+1), tomb("a", math.MinInt), shard(-1), shard(513),
	}
	for _, valid := range []api.Rec{cartLabel(5), tomb("a", 3), shard(200)} {
		for _, change := range []func(r *api.Rec){
			func(r *api.Rec) { r.Kind = 0 },
			func(r *api.Rec) { r.Kind = 4 },
			func(r *api.Rec) { r.Groups++ },
			func(r *api.Rec) { r.Groups-- },
			func(r *api.Rec) { r.Group = 2 },
			func(r *api.Rec) { r.Group = -1 },
			func(r *api.Rec) { r.Index = 10 },
			func(r *api.Rec) { r.Index = -1 },
			func(r *api.Rec) { r.Size = 257 },
			func(r *api.Rec) { r.Size = -1 },
			func(r *api.Rec) { r.Sum += "s" },
			func(r *api.Rec) { r.Sum = strings.Repeat("s", 31) },
			func(r *api.Rec) { r.Data = append(r.Data, 0) },
			func(r *api.Rec) { r.Data = make([]byte, 15) },
			func(r *api.Rec) { r.Gen = -1 },
			func(r *api.Rec) { r.Key += strings.Repeat("k", 16) },
		} {
			list = append(list, with(valid, change))
		}
	}
	for _, valid := range []api.Rec{tomb("a", 3), shard(200)} {
		list = append(list, with(valid, func(r *api.Rec) { r.Cart = 1 }), with(valid, func(r *api.Rec) { r.Key = "" }))
	}
	return append(list,
		with(cartLabel(5), func(r *api.Rec) { r.Key = "a" }), with(cartLabel(5), func(r *api.Rec) { r.Gen = 1 }), with(cartLabel(5), func(r *api.Rec) { r.Index = 1 }),
		with(tomb("a", 3), func(r *api.Rec) { r.Group = 1 }), with(tomb("a", 3), func(r *api.Rec) { r.Index = 1 }), with(tomb("a", 3), func(r *api.Rec) { r.Size = 1 }))
}

func TestGoodRecords(t *testing.T) {
	for _, r := range validRecords() {
		if !label.Good(r) {
			t.Errorf("not good: %+v", r)
		}
	}
}

func TestBadRecords(t *testing.T) {
	for _, r := range invalidRecords() {
		if label.Good(r) {
			t.Errorf("good: %+v", r)
		}
		if b, e := label.Encode(r); b != nil || e != api.ErrForm {
			t.Errorf("Encode(%+v) = %v, %d", r, b, e)
		}
	}
}

func TestEncodeByTheDefinition(t *testing.T) {
	full := shard(200)
	full.Group = 1
	for _, c := range []struct {
		r    api.Rec
		want []byte
	}{
		{cartLabel(5), []byte{107, 1, 5}},
		{tomb("ab", 300), []byte{107, 3, 2, 97, 98, 172, 2}},
		{full, slices.Concat([]byte{107, 2, 3}, []byte("key"), []byte{172, 2, 1, 2, 9, 200, 1}, []byte(full.Sum), full.Data)},
	} {
		crc := sum.Of(c.want)
		want := append(c.want, byte(crc), byte(crc>>8), byte(crc>>16), byte(crc>>24))
		if got, e := label.Encode(c.r); !bytes.Equal(got, want) || e != api.OK {
			t.Errorf("%+v: %v, %d, want %v", c.r, got, e, want)
		}
	}
	if b, _ := label.Encode(cartLabel(5)); len(b) != 7 {
		t.Error(b)
	}
}

func TestDecodeReturnsWhatWasEncoded(t *testing.T) {
	for _, r := range validRecords() {
		b, _ := label.Encode(r)
		old := slices.Clone(b)
		got, e := label.Decode(b)
		if e != api.OK || !label.Same(got, r) {
			t.Errorf("%+v, %d, want %+v", got, e, r)
		}
		for i := range got.Data {
			got.Data[i]++
		}
		if !bytes.Equal(b, old) {
			t.Error("the record shares memory with its encoding")
		}
	}
}

func refuses(t *testing.T, b []byte) {
	t.Helper()
	if r, e := label.Decode(b); e != api.ErrForm || !label.Same(r, api.Rec{}) {
		t.Errorf("Decode(%v) = %+v, %d", b, r, e)
	}
}

func TestDecodeRefusesDamage(t *testing.T) {
	for _, r := range []api.Rec{cartLabel(5), tomb("ab", 300), shard(200), shard(0)} {
		b, _ := label.Encode(r)
		for n := range b {
			refuses(t, b[:n])
			refuses(t, b[n+1:])
			for bit := range 8 {
				damaged := slices.Clone(b)
				damaged[n] ^= 1 << bit
				refuses(t, damaged)
			}
		}
		refuses(t, append(slices.Clone(b), 0))
		refuses(t, append([]byte{0}, b...))
	}
	refuses(t, nil)
	refuses(t, make([]byte, 6))
	refuses(t, make([]byte, 256))
}

// TestDecodeRefusesOtherFields: bytes with the right checksum that are still no record's encoding.
func TestDecodeRefusesOtherFields(t *testing.T) {
	data := bytes.Repeat([]byte("d"), 48)
	for _, b := range [][]byte{
		{}, {107}, {107, 1}, {107, 0, 5}, {107, 4, 5}, {108, 1, 5}, {107, 1, 32}, {107, 1, 133, 0}, {107, 1, 5, 0}, {107, 3, 0, 5}, {107, 3, 1, 97},
		{107, 3, 1, 97, 5, 5}, {107, 3, 1, 97, 133, 0}, {107, 3, 1, 97, 129, 128, 128, 128, 128, 32}, {107, 2}, {107, 2, 1, 97, 5, 0, 1, 0, 0},
		append([]byte{107, 2, 1, 97, 5, 0, 2, 0, 0}, data...), append([]byte{107, 2, 1, 97, 5, 1, 1, 0, 0}, data...), append([]byte{107, 2, 1, 97, 5, 0, 1, 10, 0}, data...),
		append([]byte{107, 2, 1, 97, 5, 0, 1, 0, 129, 1}, data...), append([]byte{107, 2, 1, 97, 5, 0, 1, 0, 0, 0}, data...), append([]byte{107, 2, 1, 97, 5, 0, 1, 0, 0}, data[:47]...),
		append([]byte{107, 2, 0, 5, 0, 1, 0, 0}, data...), append([]byte{107, 2, 1, 97, 5, 0, 5, 0, 0}, data...), append([]byte{107, 2, 1, 97, 5, 0, 1, 0, 0, 200, 4}, data...),
	} {
		crc := sum.Of(b)
		refuses(t, append(b, byte(crc), byte(crc>>8), byte(crc>>16), byte(crc>>24)))
	}
}

func TestDecodeOfRandomBytesFails(t *testing.T) {
	r := rand.New(rand.NewSource(1))
	for n := range 2000 {
		b := make([]byte, n%80)
		r.Read(b)
		if len(b) > 1 {
			b[0], b[1] = 107, byte(n%4)
		}
		refuses(t, b)
	}
}

func TestSameComparesEveryField(t *testing.T) {
	a := shard(200)
	if !label.Same(a, with(a, func(r *api.Rec) {})) {
		t.Error("a record differs from its copy")
	}
	for n, change := range []func(r *api.Rec){
		func(r *api.Rec) { r.Kind++ }, func(r *api.Rec) { r.Cart++ }, func(r *api.Rec) { r.Key += "x" }, func(r *api.Rec) { r.Gen++ },
		func(r *api.Rec) { r.Group++ }, func(r *api.Rec) { r.Groups++ }, func(r *api.Rec) { r.Index++ }, func(r *api.Rec) { r.Size++ },
		func(r *api.Rec) { r.Sum += "x" }, func(r *api.Rec) { r.Data[15]++ }, func(r *api.Rec) { r.Data = r.Data[:15] }, func(r *api.Rec) { r.Data = nil },
	} {
		if b := with(a, change); label.Same(a, b) || label.Same(b, a) {
			t.Error("change", n, "makes no difference")
		}
	}
	if !label.Same(api.Rec{}, api.Rec{Data: []byte{}}) || !label.Same(api.Rec{Data: []byte{}}, api.Rec{}) {
		t.Error("nil and empty Data differ")
	}
}
