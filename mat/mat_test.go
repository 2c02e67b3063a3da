package mat_test

import (
	"bytes"
	"math"
	"math/rand"
	"slices"
	"testing"

	"kist/gf"
	"kist/mat"
)

func equal(a, b [][]byte) bool {
	return slices.EqualFunc(a, b, bytes.Equal)
}

func clone(a [][]byte) [][]byte {
	var rows [][]byte
	for _, row := range a {
		rows = append(rows, slices.Clone(row))
	}
	return rows
}

func random(r *rand.Rand, rows, columns int) [][]byte {
	a := make([][]byte, rows)
	for i := range a {
		a[i] = make([]byte, columns)
		r.Read(a[i])
	}
	return a
}

func identity(n int) [][]byte {
	a := make([][]byte, n)
	for i := range a {
		a[i] = make([]byte, n)
		a[i][i] = 1
	}
	return a
}

func notMatrices() map[string][][]byte {
	wide := make([]byte, 33)
	return map[string][][]byte{
		"nil": nil, "no rows": {}, "empty row": {{}}, "nil row": {nil}, "ragged": {{1, 2}, {3}}, "ragged later": {{1}, {3, 4}},
		"too wide": {wide}, "too tall": random(rand.New(rand.NewSource(1)), 33, 1), "33 by 33": identity(33),
	}
}

func TestTimesIsTheSumOfProducts(t *testing.T) {
	r := rand.New(rand.NewSource(2))
	for _, size := range [][3]int{{1, 1, 1}, {1, 2, 1}, {2, 1, 2}, {3, 4, 5}, {10, 8, 16}, {32, 32, 32}, {1, 32, 1}, {32, 1, 32}} {
		a, b := random(r, size[0], size[1]), random(r, size[1], size[2])
		oldA, oldB := clone(a), clone(b)
		got, ok := mat.Times(a, b)
		if !ok || len(got) != size[0] {
			t.Fatal(size, ok, len(got))
		}
		for i := range got {
			if len(got[i]) != size[2] {
				t.Fatal(size, i, len(got[i]))
			}
			for j := range got[i] {
				var want byte
				for n := range b {
					want ^= gf.Mul(a[i][n], b[n][j])
				}
				if got[i][j] != want {
					t.Fatal(size, i, j, got[i][j], want)
				}
			}
		}
		if !equal(a, oldA) || !equal(b, oldB) {
			t.Fatal("Times changed its arguments")
		}
	}
	if got, ok := mat.Times([][]byte{{1, 2}}, [][]byte{{3}, {4}}); !ok || !equal(got, [][]byte{{11}}) {
		t.Error(got, ok)
	}
}

func TestTimesRefusesWhatHasNoProduct(t *testing.T) {
	for name, a := range notMatrices() {
		if got, ok := mat.Times(a, identity(1)); got != nil || ok {
			t.Error(name, "on the left:", got, ok)
		}
		if got, ok := mat.Times(identity(1), a); got != nil || ok {
			t.Error(name, "on the right:", got, ok)
		}
	}
	if got, ok := mat.Times(identity(2), identity(3)); got != nil || ok {
		t.Error("unlike lengths:", got, ok)
	}
	if got, ok := mat.Times([][]byte{{1}, {2}}, [][]byte{{1}, {2}}); got != nil || ok {
		t.Error("two columns against two rows of one:", got, ok)
	}
}

func TestInvertGivesTheIdentity(t *testing.T) {
	r := rand.New(rand.NewSource(3))
	inverted := 0
	for n := range 200 {
		size := n%32 + 1
		a := random(r, size, size)
		if n%3 == 0 { // a zero on the diagonal needs an exchange of rows
			a[0][0] = 0
		}
		old := clone(a)
		got, ok := mat.Invert(a)
		if !equal(a, old) {
			t.Fatal("Invert changed its argument")
		}
		if !ok {
			if got != nil {
				t.Fatal(got)
			}
			continue
		}
		inverted++
		left, _ := mat.Times(a, got)
		right, _ := mat.Times(got, a)
		if !equal(left, identity(size)) || !equal(right, identity(size)) {
			t.Fatal("no inverse:", a, got)
		}
		got[0][0]++
		if !equal(a, old) {
			t.Fatal("the result shares memory with the argument")
		}
	}
	if inverted < 150 {
		t.Error("only", inverted, "of 200 random matrices were inverted")
	}
	if got, ok := mat.Invert([][]byte{{2}}); !ok || !equal(got, [][]byte{{142}}) {
		t.Error(got, ok)
	}
	if got, ok := mat.Invert([][]byte{{0, 1}, {1, 0}}); !ok || !equal(got, [][]byte{{0, 1}, {1, 0}}) {
		t.Error(got, ok)
	}
}

func TestInvertRefusesWhatHasNoInverse(t *testing.T) {
	for name, a := range notMatrices() {
		if got, ok := mat.Invert(a); got != nil || ok {
			t.Error(name, got, ok)
		}
	}
	for _, a := range [][][]byte{
		{{0}}, {{1, 1}, {1, 1}}, {{1, 2}}, {{1}, {2}}, {{0, 0}, {0, 1}}, {{1, 0}, {0, 0}}, {{1, 2}, {2, 4}},
		{{1, 2, 3}, {4, 5, 6}, {5, 7, 5}}, // the last row is the sum of the others
	} {
		if got, ok := mat.Invert(a); got != nil || ok {
			t.Error(a, got, ok)
		}
	}
}

func TestCode(t *testing.T) {
	for k := 1; k <= 32; k++ {
		for n := k; n <= 32; n++ {
			rows := mat.Code(k, n)
			if len(rows) != n || !equal(rows[:k], identity(k)) {
				t.Fatal(k, n, rows)
			}
			for i := k; i < n; i++ {
				for j := range k {
					if len(rows[i]) != k || gf.Mul(rows[i][j], byte(i^j)) != 1 {
						t.Fatal(k, n, i, j, rows[i])
					}
				}
			}
		}
	}
	if got := mat.Code(2, 3); !equal(got, [][]byte{{1, 0}, {0, 1}, {142, 244}}) {
		t.Error(got)
	}
	for _, c := range [][2]int{{0, 0}, {0, 5}, {-1, 5}, {3, 2}, {1, 33}, {33, 33}, {32, 33}, {1, 0}, {math.MinInt, math.MaxInt}, {math.MaxInt, math.MaxInt}, {1, math.MaxInt}} {
		if got := mat.Code(c[0], c[1]); len(got) != 0 {
			t.Error(c, got)
		}
	}
}

func TestAnyRowsOfCodeAreInvertible(t *testing.T) {
	r := rand.New(rand.NewSource(4))
	for range 400 {
		k := 1 + r.Intn(32)
		n := k + r.Intn(33-k)
		rows := mat.Code(k, n)
		var chosen [][]byte
		for _, i := range r.Perm(n)[:k] {
			chosen = append(chosen, rows[i])
		}
		if _, ok := mat.Invert(chosen); !ok {
			t.Fatal(k, n, chosen)
		}
	}
}
