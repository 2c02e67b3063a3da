package rs_test

import (
	"bytes"
	"math/rand"
	"slices"
	"testing"

	"kist/api"
	"kist/gf"
	"kist/rs"
)

func randomGroup(seed int64) []byte {
	data := make([]byte, 128)
	rand.New(rand.NewSource(seed)).Read(data)
	return data
}

func encode(t *testing.T, data []byte) [][]byte {
	t.Helper()
	shards, e := rs.Encode(data)
	if e != api.OK || len(shards) != 10 {
		t.Fatal(e, len(shards))
	}
	return shards
}

func clone(shards [][]byte) [][]byte {
	var list [][]byte
	for _, shard := range shards {
		list = append(list, slices.Clone(shard))
	}
	return list
}

func TestEncodeByTheDefinition(t *testing.T) {
	data := randomGroup(1)
	old := slices.Clone(data)
	shards := encode(t, data)
	for i, shard := range shards {
		if len(shard) != 16 {
			t.Fatal(i, len(shard))
		}
		for n := range shard {
			want := data[i%8*16+n]
			if i >= 8 {
				want = 0
				for j := range 8 {
					quotient, _ := gf.Div(data[j*16+n], byte(i^j))
					want ^= quotient
				}
			}
			if shard[n] != want {
				t.Fatal(i, n, shard[n], want)
			}
		}
	}
	shards[0][0]++
	if !bytes.Equal(data, old) {
		t.Error("shards share memory with the group")
	}
}

func TestExamplesOfEncode(t *testing.T) {
	for i, shard := range encode(t, make([]byte, 128)) {
		if !bytes.Equal(shard, make([]byte, 16)) {
			t.Error(i, shard)
		}
	}
	data := make([]byte, 128)
	data[0] = 1
	shards := encode(t, data)
	last, _ := gf.Div(1, 9)
	if shards[0][0] != 1 || shards[8][0] != 173 || shards[9][0] != last {
		t.Error(shards)
	}
}

func TestEncodeRefusesOtherLengths(t *testing.T) {
	for _, n := range []int{0, 1, 16, 127, 129, 256} {
		if shards, e := rs.Encode(make([]byte, n)); e != api.ErrArg || shards != nil {
			t.Error(n, shards, e)
		}
	}
}

// TestAnyEightShardsSuffice leaves out every set of up to three shards.
func TestAnyEightShardsSuffice(t *testing.T) {
	data := randomGroup(2)
	all := encode(t, data)
	for set := range 1 << 10 {
		shards := clone(all)
		missing := 0
		for i := range shards {
			if set>>i&1 == 1 {
				shards[i] = [][]byte{nil, {}}[i%2]
				missing++
			}
		}
		got, e := rs.Decode(shards)
		filled, fillError := rs.Fill(shards)
		if missing > 2 {
			if e != api.ErrLost || got != nil || fillError != api.ErrLost || filled != nil {
				t.Fatal(set, got, e, filled, fillError)
			}
			continue
		}
		if e != api.OK || !bytes.Equal(got, data) {
			t.Fatal(set, got, e)
		}
		if fillError != api.OK || !slices.EqualFunc(filled, all, bytes.Equal) {
			t.Fatal(set, filled, fillError)
		}
	}
}

func TestFurtherShardsAreIgnored(t *testing.T) {
	data := randomGroup(3)
	all := encode(t, data)
	shards := clone(all)
	shards[8][3]++
	shards[9][4]++
	if got, e := rs.Decode(shards); e != api.OK || !bytes.Equal(got, data) {
		t.Error(got, e)
	}
	if filled, e := rs.Fill(shards); e != api.OK || !slices.EqualFunc(filled, all, bytes.Equal) {
		t.Error("Fill keeps a shard that does not belong to the group:", filled, e)
	}
	shards = clone(all)
	shards[0] = nil
	shards[9][4]++
	if got, e := rs.Decode(shards); e != api.OK || !bytes.Equal(got, data) {
		t.Error(got, e)
	}
	shards[8][3]++
	if got, e := rs.Decode(shards); e != api.OK || bytes.Equal(got, data) {
		t.Error("shard 8 is not used for shard 0:", e)
	}
}

func TestDecodeKeepsItsArguments(t *testing.T) {
	all := encode(t, randomGroup(4))
	all[2] = nil
	old := clone(all)
	got, _ := rs.Decode(all)
	filled, _ := rs.Fill(all)
	got[0]++
	filled[0][0]++
	if !slices.EqualFunc(all, old, bytes.Equal) {
		t.Error("Decode or Fill changed or returned its argument")
	}
}

func TestDecodeRefusesOtherShapes(t *testing.T) {
	all := encode(t, randomGroup(5))
	short, long := clone(all), clone(all)
	short[9] = short[9][:15]
	long[0] = append(long[0], 0)
	fewAndBad := make([][]byte, 10)
	fewAndBad[9] = make([]byte, 1)
	for name, shards := range map[string][][]byte{
		"nil": nil, "none": {}, "nine": all[:9], "eleven": append(clone(all), all[0]), "short": short, "long": long, "few and bad": fewAndBad,
	} {
		if got, e := rs.Decode(shards); e != api.ErrArg || got != nil {
			t.Error(name, got, e)
		}
		if got, e := rs.Fill(shards); e != api.ErrArg || got != nil {
			t.Error(name, got, e)
		}
	}
}
