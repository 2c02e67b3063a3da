package jour_test

import (
	"bytes"
	"math"
	"math/rand"
	"slices"
	"strings"
	"testing"

	"kist/api"
	"kist/jour"
	"kist/sum"
)

func full() api.Note {
	n := api.Note{
		Kind: 6, Key: strings.Repeat("k", 16), Gen: 1 << 40, Cart: 31, Data: bytes.Repeat([]byte("d"), 512), Sum: strings.Repeat("s", 32), Size: 512,
		Places: make([]api.Place, 40),
	}
	n.Places[0], n.Places[39] = api.Place{Cart: 31, Pos: 1024}, api.Place{Cart: 1, Pos: 300}
	return n
}

func with(n api.Note, change func(n *api.Note)) api.Note {
	n.Data, n.Places = slices.Clone(n.Data), slices.Clone(n.Places)
	change(&n)
	return n
}

// frame is the frame of a note by the document's words.
func frame(t *testing.T, n api.Note) []byte {
	t.Helper()
	b, e := jour.Encode(n)
	if e != api.OK {
		t.Fatal(e)
	}
	return framed(b)
}

func framed(b []byte) []byte {
	length := []byte{byte(len(b)), byte(len(b) >> 8), byte(len(b) >> 16), byte(len(b) >> 24)}
	crc := sum.Of(slices.Concat(length, b))
	return slices.Concat(length, []byte{byte(crc), byte(crc >> 8), byte(crc >> 16), byte(crc >> 24)}, b)
}

func validNotes() []api.Note {
	return []api.Note{
		full(), {Kind: 1}, {Kind: 4, Gen: 300}, {Kind: 1, Key: "a", Data: []byte("xyz")}, {Kind: 5, Cart: 7},
		{Kind: 2, Key: "a", Gen: 5, Size: 9, Sum: "sum", Places: []api.Place{{Cart: 1, Pos: 2}, {Cart: 3, Pos: 400}}},
	}
}

func invalidNotes() []api.Note {
	list := []api.Note{{}, {Kind: -1}, {Kind: 7}, {Kind: math.MaxInt}, {Kind: math.MinInt}}
	for _, change := range []func(n *api.Note){
		func(n *api.Note) { n.Key += "k" },
		func(n *api.Note) { n.Gen++ },
		func(n *api.Note) { n.Gen = -1 },
		func(n *api.Note) { n.Cart = 32 },
		func(n *api.Note) { n.Cart = -1 },
		func(n *api.Note) { n.Data = append(n.Data, 0) },
		func(n *api.Note) { n.Sum += "s" },
		func(n *api.Note) { n.Size = 513 },
		func(n *api.Note) { n.Size = -1 },
		func(n *api.Note) { n.Places = append(n.Places, api.Place{}) },
		func(n *api.Note) { n.Places[39].Cart = 32 },
		func(n *api.Note) { n.Places[0].Cart = -1 },
		func(n *api.Note) { n.Places[0].Pos = 1025 },
		func(n *api.Note) { n.Places[39].Pos = -1 },
	} {
		list = append(list, with(full(), change))
	}
	return list
}

func TestEncodeByTheDefinition(t *testing.T) {
	for _, c := range []struct {
		n    api.Note
		want []byte
	}{
		{api.Note{Kind: 4, Gen: 300}, []byte{4, 0, 172, 2, 0, 0, 0, 0, 0}},
		{
			api.Note{Kind: 2, Key: "ab", Gen: 1, Cart: 3, Data: []byte{7, 8, 9}, Sum: "s", Size: 500, Places: []api.Place{{Cart: 4, Pos: 1024}, {Cart: 5, Pos: 6}}},
			[]byte{2, 2, 97, 98, 1, 3, 3, 7, 8, 9, 1, 115, 244, 3, 2, 4, 128, 8, 5, 6},
		},
	} {
		if got, e := jour.Encode(c.n); !bytes.Equal(got, c.want) || e != api.OK {
			t.Errorf("%+v: %v, %d, want %v", c.n, got, e, c.want)
		}
	}
}

func TestEncodeRefusesInvalidNotes(t *testing.T) {
	for _, n := range invalidNotes() {
		if b, e := jour.Encode(n); b != nil || e != api.ErrForm {
			t.Errorf("%+v: %v, %d", n, b, e)
		}
	}
}

func TestDecodeReturnsWhatWasEncoded(t *testing.T) {
	for _, n := range validNotes() {
		b, e := jour.Encode(n)
		if e != api.OK {
			t.Fatalf("%+v: %d", n, e)
		}
		got, e := jour.Decode(b)
		if e != api.OK || !jour.Same(got, n) {
			t.Errorf("%+v, %d, want %+v", got, e, n)
		}
	}
}

func refuses(t *testing.T, b []byte) {
	t.Helper()
	if n, e := jour.Decode(b); e != api.ErrForm || !jour.Same(n, api.Note{}) {
		t.Errorf("Decode(%v) = %+v, %d", b, n, e)
	}
}

func TestDecodeRefusesOtherBytes(t *testing.T) {
	for _, n := range validNotes() {
		b, _ := jour.Encode(n)
		for length := range b {
			refuses(t, b[:length])
		}
		refuses(t, append(slices.Clone(b), 0))
	}
	for _, b := range [][]byte{
		{0, 0, 0, 0, 0, 0, 0, 0}, {7, 0, 0, 0, 0, 0, 0, 0}, {132, 0, 0, 0, 0, 0, 0, 0, 0}, {4, 128, 0, 0, 0, 0, 0, 0, 0},
		{4, 0, 0, 32, 0, 0, 0, 0}, {4, 0, 0, 0, 0, 0, 0, 41}, {4, 0, 0, 0, 0, 0, 0, 1, 32, 0}, {4, 0, 0, 0, 0, 0, 0, 1, 0, 129, 8},
		{4, 0, 129, 128, 128, 128, 128, 32, 0, 0, 0, 0, 0}, {4, 0, 0, 0, 0, 0, 129, 4, 0},
	} {
		refuses(t, b)
	}
}

func TestSameComparesEveryField(t *testing.T) {
	a := full()
	if !jour.Same(a, with(a, func(n *api.Note) {})) {
		t.Error("a note differs from its copy")
	}
	for i, change := range []func(n *api.Note){
		func(n *api.Note) { n.Kind-- }, func(n *api.Note) { n.Key = "k" }, func(n *api.Note) { n.Gen-- }, func(n *api.Note) { n.Cart-- },
		func(n *api.Note) { n.Data[511]++ }, func(n *api.Note) { n.Data = n.Data[:511] }, func(n *api.Note) { n.Data = nil }, func(n *api.Note) { n.Sum = "" },
		func(n *api.Note) { n.Size-- }, func(n *api.Note) { n.Places[39].Pos++ }, func(n *api.Note) { n.Places[39].Cart++ }, func(n *api.Note) { n.Places = n.Places[:39] },
	} {
		if b := with(a, change); jour.Same(a, b) || jour.Same(b, a) {
			t.Error("change", i, "makes no difference")
		}
	}
	empty := api.Note{Data: []byte{}, Places: []api.Place{}}
	if !jour.Same(api.Note{}, empty) || !jour.Same(empty, api.Note{}) {
		t.Error("nil and empty differ")
	}
}

func scans(t *testing.T, b []byte, length int, want ...api.Note) {
	t.Helper()
	notes, n := jour.Scan(b)
	if n != length || !slices.EqualFunc(notes, want, jour.Same) {
		t.Errorf("%d notes in %d bytes, want %d in %d", len(notes), n, len(want), length)
	}
}

func TestScanExample(t *testing.T) {
	n := api.Note{Kind: 4, Gen: 300}
	b := frame(t, n)
	if len(b) != 17 {
		t.Error(b)
	}
	scans(t, append(b, 9), 17, n)
}

func TestScanStopsAtTheFirstIncompleteFrame(t *testing.T) {
	notes := validNotes()
	var all []byte
	ends := []int{0}
	for _, n := range notes {
		all = append(all, frame(t, n)...)
		ends = append(ends, len(all))
	}
	complete := 0
	for length := range len(all) + 1 {
		if length == ends[min(complete+1, len(notes))] && complete < len(notes) {
			complete++
		}
		scans(t, all[:length], ends[complete], notes[:complete]...)
	}
}

func TestScanStopsAtDamage(t *testing.T) {
	notes := []api.Note{{Kind: 4, Gen: 1}, {Kind: 1, Key: "a", Data: []byte("xyz")}, {Kind: 4, Gen: 2}}
	all := slices.Concat(frame(t, notes[0]), frame(t, notes[1]), frame(t, notes[2]))
	first, second := len(frame(t, notes[0])), len(frame(t, notes[1]))
	for i := first; i < first+second; i++ {
		for bit := range 8 {
			b := slices.Clone(all)
			b[i] ^= 1 << bit
			scans(t, b, first, notes[0])
		}
	}
}

// TestScanWantsValidNotes: a frame with the right checksum of bytes that are no note.
func TestScanWantsValidNotes(t *testing.T) {
	first := frame(t, api.Note{Kind: 4, Gen: 1})
	for _, b := range [][]byte{{}, {7, 0, 0, 0, 0, 0, 0, 0}, {4, 0, 1, 0, 0, 0, 0, 0, 0}, {4, 0, 1, 32, 0, 0, 0, 0}} {
		scans(t, slices.Concat(first, framed(b), first), len(first), api.Note{Kind: 4, Gen: 1})
	}
	scans(t, nil, 0)
	scans(t, bytes.Repeat([]byte{255}, 40), 0)
	scans(t, make([]byte, 40), 0)
}

func TestNotesShareNoMemory(t *testing.T) {
	b := slices.Concat(frame(t, full()), frame(t, full()))
	old := slices.Clone(b)
	notes, _ := jour.Scan(b)
	for i := range notes[0].Data {
		notes[0].Data[i]++
	}
	for i := range notes[0].Places {
		notes[0].Places[i].Pos++
	}
	if !bytes.Equal(b, old) || !jour.Same(notes[1], full()) {
		t.Error("notes share memory with each other or with the bytes")
	}
}

func TestScanOfRandomBytes(t *testing.T) {
	r := rand.New(rand.NewSource(1))
	for n := range 300 {
		b := make([]byte, n)
		r.Read(b)
		scans(t, b, 0)
	}
}
