package word_test

import (
	"bytes"
	"math"
	"math/rand"
	"slices"
	"testing"

	"kist/word"
)

func TestPut(t *testing.T) {
	for _, c := range []struct {
		b    []byte
		n    int
		want []byte
	}{
		{nil, 300, []byte{172, 2}}, {nil, 0, []byte{0}}, {nil, -1, []byte{0}}, {nil, math.MinInt, []byte{0}},
		{[]byte{9}, 127, []byte{9, 127}}, {[]byte{9, 128}, 128, []byte{9, 128, 128, 1}}, {nil, 16384, []byte{128, 128, 1}},
		{nil, math.MaxInt, []byte{255, 255, 255, 255, 255, 255, 255, 255, 127}},
	} {
		if got := word.Put(c.b, c.n); !bytes.Equal(got, c.want) {
			t.Errorf("Put(%v, %d) = %v, want %v", c.b, c.n, got, c.want)
		}
	}
}

func TestText(t *testing.T) {
	if got := word.Text(nil, "ab"); !bytes.Equal(got, []byte{2, 97, 98}) {
		t.Error(got)
	}
	if got := word.Text([]byte{7}, ""); !bytes.Equal(got, []byte{7, 0}) {
		t.Error(got)
	}
	long := string(make([]byte, 200)) + "\xff"
	if got := word.Text([]byte{7}, long); !bytes.Equal(got, append([]byte{7, 201, 1}, long...)) {
		t.Error(got)
	}
}

// TestPutKeepsWhatIsBehind: the memory behind a slice belongs to the caller.
func TestPutKeepsWhatIsBehind(t *testing.T) {
	all := []byte("abcdefghijklmnop")
	old := slices.Clone(all)
	first, second := word.Put(all[:2], 300), word.Put(all[:2], 5)
	third := word.Text(all[:2], "xyz")
	for _, got := range [][]byte{first, second, third} {
		got[0] = 'z'
		_ = append(got, 1)
	}
	if !bytes.Equal(all, old) || !bytes.Equal(first, []byte{'z', 'b', 172, 2}) || !bytes.Equal(second, []byte{'z', 'b', 5}) {
		t.Error(all, first, second)
	}
}

func TestGet(t *testing.T) {
	for _, c := range []struct {
		b    []byte
		most int
		n    int
		ok   bool
	}{
		{[]byte{172, 2}, 300, 300, true}, {[]byte{172, 2}, 299, 0, false}, {[]byte{0}, 0, 0, true}, {[]byte{0}, -1, 0, false},
		{[]byte{128, 0}, 9, 0, false}, {[]byte{129, 0}, 9, 0, false}, {[]byte{128, 128, 0}, 9, 0, false}, {nil, 9, 0, false},
		{[]byte{128}, math.MaxInt, 0, false}, {[]byte{5}, math.MinInt, 0, false}, {[]byte{5}, math.MaxInt, 5, true},
		{[]byte{255, 255, 255, 255, 255, 255, 255, 255, 127}, math.MaxInt, math.MaxInt, true},
		{[]byte{255, 255, 255, 255, 255, 255, 255, 255, 127}, math.MaxInt - 1, 0, false},
		{[]byte{255, 255, 255, 255, 255, 255, 255, 255, 255, 1}, math.MaxInt, 0, false},
		{[]byte{128, 128, 128, 128, 128, 128, 128, 128, 128, 1}, math.MaxInt, 0, false},
		{[]byte{128, 128, 128, 128, 128, 128, 128, 128, 0}, math.MaxInt, 0, false},
	} {
		r := word.New(c.b)
		if n := r.Get(c.most); n != c.n || r.End() != c.ok {
			t.Errorf("Get(%d) of %v = %d, %v", c.most, c.b, n, r.End())
		}
	}
}

func TestTextOfAReader(t *testing.T) {
	for _, c := range []struct {
		b    []byte
		most int
		s    string
		ok   bool
	}{
		{[]byte{2, 97, 98}, 2, "ab", true}, {[]byte{2, 97, 98}, 1, "", false}, {[]byte{3, 97, 98}, 9, "", false}, {[]byte{0}, 0, "", true},
		{[]byte{0}, -1, "", false}, {nil, 9, "", false}, {[]byte{130, 0, 97, 98}, 9, "", false},
		{[]byte{255, 255, 255, 255, 255, 255, 255, 255, 127, 1}, math.MaxInt, "", false},
	} {
		r := word.New(c.b)
		if s := r.Text(c.most); s != c.s || r.End() != c.ok {
			t.Errorf("Text(%d) of %v = %q, %v", c.most, c.b, s, r.End())
		}
	}
}

func TestInvalidReadersStayInvalid(t *testing.T) {
	for name, spoil := range map[string]func(r *word.Reader){
		"number": func(r *word.Reader) { r.Get(1) },
		"length": func(r *word.Reader) { r.Text(1) },
		"few":    func(r *word.Reader) { r.Text(99) },
	} {
		r := word.New([]byte{7, 3, 1, 97})
		spoil(r)
		if n, s, end := r.Get(99), r.Text(99), r.End(); n != 0 || s != "" || end {
			t.Error(name, n, s, end)
		}
	}
}

func TestEndWantsNothingLeft(t *testing.T) {
	r := word.New([]byte{1, 1, 97})
	if r.End() {
		t.Error("at the end before the first byte")
	}
	if n := r.Get(9); n != 1 || r.End() {
		t.Error(n)
	}
	if s := r.Text(9); s != "a" || !r.End() {
		t.Error(s)
	}
	if n := r.Get(9); n != 0 || r.End() {
		t.Error("a number behind the end:", n)
	}
	if !word.New(nil).End() {
		t.Error("the empty reader is not at its end")
	}
}

func TestReadersCopyTheirBytes(t *testing.T) {
	b := []byte{1, 2}
	r := word.New(b)
	b[0] = 9
	if n := r.Get(99); n != 1 {
		t.Error(n)
	}
}

func TestNilReader(t *testing.T) {
	var r *word.Reader
	if n, s, end := r.Get(9), r.Text(9), r.End(); n != 0 || s != "" || end {
		t.Error(n, s, end)
	}
}

func TestRoundTrips(t *testing.T) {
	r := rand.New(rand.NewSource(1))
	var b []byte
	var numbers []int
	var texts []string
	for range 500 {
		n := r.Int() >> r.Intn(63)
		s := string(make([]byte, r.Intn(300)))
		numbers, texts = append(numbers, n), append(texts, s)
		b = word.Text(word.Put(b, n), s)
	}
	reader := word.New(b)
	for i, want := range numbers {
		if n, s := reader.Get(want), reader.Text(len(texts[i])); n != want || s != texts[i] {
			t.Fatal(i, n, want, len(s))
		}
	}
	if !reader.End() {
		t.Error("something is left")
	}
}
