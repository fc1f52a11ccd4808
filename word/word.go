// Package word is layer 1: numbers of 256 bits, as shared/doc/01-word.md says.
package word

import (
	"cmp"
	"math/bits"

	"smithy/api"
)

const (
	parts    = 4
	partBits = 64
	allBits  = parts * partBits
	allBytes = allBits / 8
)

// Of is a small number as a word.
func Of(n uint64) api.Word { return api.Word{n} }

// Small is a word as a small number, and whether it is one.
func Small(a api.Word) (uint64, bool) {
	if a != Of(a[0]) {
		return 0, false
	}
	return a[0], true
}

// Bytes are a word's bytes, the highest first.
func Bytes(a api.Word) [32]byte {
	var b [allBytes]byte
	for i := range b {
		b[i] = Byte(a, uint64(i))
	}
	return b
}

// From is the word whose bytes end with b.
func From(b []byte) api.Word {
	var a api.Word
	for i := range min(len(b), allBytes) {
		last := b[len(b)-1-i]
		a[i/8] |= uint64(last) << (8 * uint(i%8))
	}
	return a
}

// Compare is how two words stand to each other: -1, 0 or 1.
func Compare(a, b api.Word) int {
	if a == b {
		return 0
	}
	// The highest part in which they differ decides; there is one.
	i := parts - 1
	for i > 0 && a[i] == b[i] {
		i--
	}
	return cmp.Compare(a[i], b[i])
}

// Add is a sum, going round.
func Add(a, b api.Word) api.Word {
	var sum api.Word
	var carry uint64
	for i := range sum {
		sum[i], carry = bits.Add64(a[i], b[i], carry)
	}
	return sum
}

// Sub is a difference, going round.
func Sub(a, b api.Word) api.Word {
	var diff api.Word
	var borrow uint64
	for i := range diff {
		diff[i], borrow = bits.Sub64(a[i], b[i], borrow)
	}
	return diff
}

// Mul is a product, going round.
func Mul(a, b api.Word) api.Word {
	var product api.Word
	for i := range a {
		var carry uint64
		// What would land beyond the highest part is what goes round.
		for j := range parts - i {
			carry, product[i+j] = mulAdd(a[i], b[j], product[i+j], carry)
		}
	}
	return product
}

// mulAdd is x*y + m + n in two halves, the high one first: at most
// (2^64-1)^2 + 2*(2^64-1) = 2^128 - 1, so the high half never overflows.
func mulAdd(x, y, m, n uint64) (uint64, uint64) {
	high, low := bits.Mul64(x, y)
	low, carry := bits.Add64(low, m, 0)
	high += carry
	low, carry = bits.Add64(low, n, 0)
	return high + carry, low
}

// And has the bits that both have.
func And(a, b api.Word) api.Word {
	return api.Word{a[0] & b[0], a[1] & b[1], a[2] & b[2], a[3] & b[3]}
}

// Or has the bits that one of both has.
func Or(a, b api.Word) api.Word {
	return api.Word{a[0] | b[0], a[1] | b[1], a[2] | b[2], a[3] | b[3]}
}

// Xor has the bits that just one of both has.
func Xor(a, b api.Word) api.Word {
	return api.Word{a[0] ^ b[0], a[1] ^ b[1], a[2] ^ b[2], a[3] ^ b[3]}
}

// Not has all bits turned.
func Not(a api.Word) api.Word {
	return api.Word{^a[0], ^a[1], ^a[2], ^a[3]}
}

// Shl is a word times 2^n, going round.
func Shl(a api.Word, n uint) api.Word {
	var up api.Word
	// From 256 on no part is within reach, and all bits stay 0.
	whole, rest := int(n/partBits), n%partBits
	for i := whole; i < parts; i++ {
		up[i] = a[i-whole] << rest
		if i > whole {
			// With a rest of 0 this shifts by 64, and so adds nothing.
			up[i] |= a[i-whole-1] >> (partBits - rest)
		}
	}
	return up
}

// Shr is a word divided by 2^n, cut down.
func Shr(a api.Word, n uint) api.Word {
	var down api.Word
	// From 256 on no part is within reach, and all bits stay 0.
	whole, rest := int(n/partBits), n%partBits
	for i := whole; i < parts; i++ {
		down[i-whole] = a[i] >> rest
		if i < parts-1 {
			// With a rest of 0 this shifts by 64, and so adds nothing.
			down[i-whole] |= a[i+1] << (partBits - rest)
		}
	}
	return down
}

// Bit tells whether a bit is 1, the lowest being bit 0.
func Bit(a api.Word, n uint) bool {
	return n < allBits && a[n/partBits]>>(n%partBits)&1 == 1
}

// Len is how many bits a word has.
func Len(a api.Word) int {
	for i := parts - 1; i >= 0; i-- {
		if a[i] != 0 {
			return partBits*i + bits.Len64(a[i])
		}
	}
	return 0
}

// Byte is a byte of a word, the highest being byte 0.
func Byte(a api.Word, n uint64) byte {
	if n >= allBytes {
		return 0
	}
	place := allBytes - 1 - n
	return byte(a[place/8] >> (8 * (place % 8)))
}

// Size is how many bytes a word has without noughts ahead.
func Size(a api.Word) int { return (Len(a) + 7) / 8 }
