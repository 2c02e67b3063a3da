// Package hexa writes and reads bytes in hexadecimal notation. It is not a layer: tale and shell use it.
package hexa

import "strings"

const digits = "0123456789abcdef"

// Text returns the letter x followed by two digits per byte.
func Text(b []byte) string {
	text := []byte{'x'}
	for _, x := range b {
		text = append(text, digits[x>>4], digits[x&15])
	}
	return string(text)
}

// Bytes returns the bytes whose notation is text, if there are any.
func Bytes(text string) ([]byte, bool) {
	pairs, marked := strings.CutPrefix(text, "x")
	if !marked || len(pairs)%2 != 0 {
		return nil, false
	}
	var b []byte
	for i := 0; i < len(pairs); i += 2 {
		high, low := strings.IndexByte(digits, pairs[i]), strings.IndexByte(digits, pairs[i+1])
		if high < 0 || low < 0 {
			return nil, false
		}
		b = append(b, byte(high<<4|low))
	}
	return b, true
}
