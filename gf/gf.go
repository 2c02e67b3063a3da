// Package gf implements arithmetic in the finite field GF(256).
package gf

// modulus is x^8 + x^4 + x^3 + x^2 + 1 without its leading term: what is left of x^8.
const modulus = 285 - 256

// order is the number of non-zero elements: every one of them to this power is 1.
const order = 255

// Mul returns the product of a and b.
func Mul(a, b byte) byte {
	var product byte
	for range 8 {
		if b&1 != 0 {
			product ^= a
		}
		a = timesX(a)
		b >>= 1
	}
	return product
}

// timesX multiplies by the polynomial x.
func timesX(a byte) byte {
	if a&128 != 0 {
		return a<<1 ^ modulus
	}
	return a << 1
}

// Pow returns the product of n factors a, which is 1 if n is not positive.
func Pow(a byte, n int) byte {
	if n <= 0 {
		return 1
	}
	if a == 0 {
		return 0
	}
	// The powers of a non-zero base repeat, so that eight bits of a huge n suffice.
	n %= order
	var product byte = 1
	for range 8 {
		if n&1 != 0 {
			product = Mul(product, a)
		}
		a = Mul(a, a)
		n >>= 1
	}
	return product
}

// Div returns the byte whose product with b is a, and whether there is one.
func Div(a, b byte) (byte, bool) {
	if b == 0 {
		return 0, false
	}
	return Mul(a, Pow(b, order-1)), true
}
