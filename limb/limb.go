// Package limb is layer 1: see shared/doc/01-limb.md.
package limb

import (
	"cmp"
	"math/bits"

	"clapper/api"
)

const (
	words     = 4
	wordBits  = 64
	wordBytes = 8
	numBits   = words * wordBits
	numBytes  = words * wordBytes
)

// Add is the sum: P1.1.
func Add(a, b api.Num) (api.Num, bool) {
	var sum api.Num
	var carry uint64
	for i := range words {
		sum[i], carry = bits.Add64(a[i], b[i], carry)
	}
	return sum, carry != 0
}

// Sub is the difference: P1.1.
func Sub(a, b api.Num) (api.Num, bool) {
	var difference api.Num
	var borrow uint64
	for i := range words {
		difference[i], borrow = bits.Sub64(a[i], b[i], borrow)
	}
	return difference, borrow != 0
}

// Mul is the product: P1.1.
func Mul(a, b api.Num) api.Wide {
	var product api.Wide
	for i := range words {
		var carry uint64
		for j := range words {
			product[i+j], carry = mulAdd(a[i], b[j], product[i+j], carry)
		}
		// No row ahead of this one has reached this word: it is 0 still.
		product[i+words] = carry
	}
	return product
}

// mulAdd is x y + u + v. At most that is (2^64 - 1)^2 + 2 (2^64 - 1), which is
// 2^128 - 1, so that the high word never runs over.
func mulAdd(x, y, u, v uint64) (low, high uint64) {
	high, low = bits.Mul64(x, y)
	low, carry := bits.Add64(low, u, 0)
	high += carry
	low, carry = bits.Add64(low, v, 0)
	return low, high + carry
}

// Cmp compares two: P1.1.
func Cmp(a, b api.Num) int {
	for i := words - 1; i >= 0; i-- {
		if a[i] != b[i] {
			return cmp.Compare(a[i], b[i])
		}
	}
	return 0
}

// Half is half of it: P1.2.
func Half(a api.Num) api.Num {
	var half api.Num
	var above uint64
	for i := words - 1; i >= 0; i-- {
		half[i] = a[i]>>1 | above<<(wordBits-1)
		above = a[i]
	}
	return half
}

// Bit is a bit: P1.2.
func Bit(a api.Num, i int) bool {
	if i < 0 || i >= numBits {
		return false
	}
	return a[i/wordBits]>>(i%wordBits)&1 == 1
}

// Len is how many bits it has: P1.2.
func Len(a api.Num) int {
	for i := words - 1; i >= 0; i-- {
		if a[i] != 0 {
			return i*wordBits + bits.Len64(a[i])
		}
	}
	return 0
}

// Bytes are its bytes: P1.3.
func Bytes(a api.Num) []byte {
	b := make([]byte, numBytes)
	for i := range numBytes {
		b[numBytes-1-i] = byte(a[i/wordBytes] >> (i % wordBytes * 8))
	}
	return b
}

// Of is the number of bytes: P1.3.
func Of(b []byte) (api.Num, error) {
	if len(b) > numBytes {
		return api.Num{}, api.ErrArg
	}
	var a api.Num
	for i := range len(b) {
		a[i/wordBytes] |= uint64(b[len(b)-1-i]) << (i % wordBytes * 8)
	}
	return a, nil
}
