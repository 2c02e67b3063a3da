package dig_test

import (
	"crypto/sha256"
	"encoding/hex"
	"math/rand"
	"slices"
	"strings"
	"testing"

	"kist/dig"
)

func TestExamples(t *testing.T) {
	if got := hex.EncodeToString([]byte(dig.Of(nil))); !strings.HasPrefix(got, "e3b0c442") || len(got) != 64 {
		t.Error(got)
	}
	want := "ba7816bf8f01cfea414140de5dae2223b00361a396177a9cb410ff61f20015ad"
	if got := hex.EncodeToString([]byte(dig.Of([]byte("abc")))); got != want {
		t.Error(got)
	}
}

// TestAgainstTheLibrary covers every length modulo the block's, several blocks, and a count of bits of several bytes.
func TestAgainstTheLibrary(t *testing.T) {
	r := rand.New(rand.NewSource(1))
	for n := range 400 {
		if n == 399 {
			n = 1 << 14
		}
		b := make([]byte, n, n+100)
		r.Read(b)
		spare := b[:cap(b)]
		old := slices.Clone(spare)
		want := sha256.Sum256(b)
		if got := dig.Of(b); got != string(want[:]) {
			t.Fatalf("Of %d bytes: % x, want % x", n, got, want)
		}
		if !slices.Equal(spare, old) {
			t.Fatal("Of changed its argument or the memory behind it")
		}
	}
}
