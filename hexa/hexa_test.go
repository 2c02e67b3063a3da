package hexa_test

import (
	"bytes"
	"testing"

	"kist/hexa"
)

func TestTextAndBytes(t *testing.T) {
	for text, b := range map[string][]byte{"x": nil, "x00": {0}, "xff": {255}, "x0a": {10}, "xa0": {160}, "x6162": []byte("ab")} {
		if got := hexa.Text(b); got != text {
			t.Error(b, got)
		}
		if got, ok := hexa.Bytes(text); !bytes.Equal(got, b) || !ok {
			t.Error(text, got, ok)
		}
	}
	for _, text := range []string{"", "61", "X61", "x6", "x616", "x6A", "xg0", "x0g", "x 1", "xx", "x61x", " x61", "x61 ", "x\xff0"} {
		if got, ok := hexa.Bytes(text); got != nil || ok {
			t.Errorf("%q: %v", text, got)
		}
	}
	all := make([]byte, 256)
	for i := range all {
		all[i] = byte(i)
	}
	if got, ok := hexa.Bytes(hexa.Text(all)); !bytes.Equal(got, all) || !ok {
		t.Error(got, ok)
	}
}
