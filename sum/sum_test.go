package sum_test

import (
	"hash/crc32"
	"math/rand"
	"slices"
	"testing"

	"kist/sum"
)

func TestExamples(t *testing.T) {
	for text, want := range map[string]uint32{"": 0, "123456789": 0xe3069283, "a": 0xc1d04330} {
		if got := sum.Of([]byte(text)); got != want {
			t.Errorf("Of(%q) = %x, want %x", text, got, want)
		}
	}
	if got := sum.Of(nil); got != 0 {
		t.Errorf("Of(nil) = %x", got)
	}
}

func TestAgainstTheLibrary(t *testing.T) {
	r := rand.New(rand.NewSource(1))
	table := crc32.MakeTable(crc32.Castagnoli)
	for n := range 600 {
		b := make([]byte, n)
		r.Read(b)
		old := slices.Clone(b)
		if got, want := sum.Of(b), crc32.Checksum(b, table); got != want {
			t.Fatalf("Of(% x) = %x, want %x", b, got, want)
		}
		if !slices.Equal(b, old) {
			t.Fatal("Of changed its argument")
		}
	}
}
