package gf_test

import (
	"math"
	"testing"

	"kist/gf"
)

// longMul multiplies the polynomials first and reduces the product afterwards.
func longMul(a, b byte) byte {
	product := 0
	for n := range 8 {
		if b>>n&1 == 1 {
			product ^= int(a) << n
		}
	}
	for n := 14; n >= 8; n-- {
		if product>>n&1 == 1 {
			product ^= 285 << (n - 8)
		}
	}
	return byte(product)
}

func TestMulOfAllPairs(t *testing.T) {
	for a := range 256 {
		for b := range 256 {
			got, want := gf.Mul(byte(a), byte(b)), longMul(byte(a), byte(b))
			if got != want {
				t.Fatalf("Mul(%d, %d) = %d, want %d", a, b, got, want)
			}
		}
	}
}

func TestExamplesOfMul(t *testing.T) {
	for _, c := range [][3]byte{{128, 2, 29}, {2, 3, 6}, {255, 255, 226}, {0, 9, 0}, {9, 1, 9}} {
		if got := gf.Mul(c[0], c[1]); got != c[2] {
			t.Errorf("Mul(%d, %d) = %d, want %d", c[0], c[1], got, c[2])
		}
	}
}

func TestPowIsARepeatedProduct(t *testing.T) {
	for a := range 256 {
		var want byte = 1
		for n := range 600 {
			if got := gf.Pow(byte(a), n); got != want {
				t.Fatalf("Pow(%d, %d) = %d, want %d", a, n, got, want)
			}
			want = longMul(want, byte(a))
		}
	}
}

func TestPowOfExtremeExponents(t *testing.T) {
	for _, c := range []struct {
		a    byte
		n    int
		want byte
	}{
		{2, 8, 29}, {2, 255, 1}, {0, 0, 1}, {0, -1, 1}, {7, -1, 1}, {7, math.MinInt, 1}, {0, math.MinInt, 1},
		{0, math.MaxInt, 0}, {1, math.MaxInt, 1}, {3, math.MaxInt, gf.Pow(3, math.MaxInt%255)}, {3, 255 * 1000000, 1},
	} {
		if got := gf.Pow(c.a, c.n); got != c.want {
			t.Errorf("Pow(%d, %d) = %d, want %d", c.a, c.n, got, c.want)
		}
	}
}

func TestDivUndoesMul(t *testing.T) {
	for a := range 256 {
		for b := 1; b < 256; b++ {
			got, ok := gf.Div(byte(a), byte(b))
			if !ok || longMul(got, byte(b)) != byte(a) {
				t.Fatalf("Div(%d, %d) = %d, %v", a, b, got, ok)
			}
		}
		if got, ok := gf.Div(byte(a), 0); got != 0 || ok {
			t.Fatalf("Div(%d, 0) = %d, %v", a, got, ok)
		}
	}
	if got, ok := gf.Div(29, 2); got != 128 || !ok {
		t.Errorf("Div(29, 2) = %d, %v", got, ok)
	}
}
