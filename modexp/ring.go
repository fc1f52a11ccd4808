package modexp

import (
	"math"
	"math/bits"

	"smithy/api"
)

const (
	partBytes = 8
	partBits  = 8 * partBytes
	parts     = api.MaxPow / partBytes
)

// number is a number of at most MaxPow bytes: its parts, the lowest first.
type number [parts]uint64

// numberOf is the number that has these bytes, MaxPow at most.
func numberOf(b []byte) number {
	var a number
	for i := range b {
		last := b[len(b)-1-i]
		a[i/partBytes] |= uint64(last) << (8 * (i % partBytes))
	}
	return a
}

// write fills b with a number's last bytes.
func (a number) write(b []byte) {
	for i := range b {
		b[len(b)-1-i] = byte(a[i/partBytes] >> (8 * (i % partBytes)))
	}
}

// size is how many parts a number has without noughts ahead.
func (a number) size() int {
	n := parts
	for n > 0 && a[n-1] == 0 {
		n--
	}
	return n
}

// ring are the numbers below a modulus that is shifted up, until the highest
// bit of its parts is 1: so the guesses of quotients are near. What is left by
// it has the same left by the modulus itself, of which it is a multiple.
type ring struct {
	shifted number
	shift   uint
	size    int // parts of the modulus; a number of the ring has no more
}

// ringOf is the ring of a modulus, and whether there is one: none of 0.
func ringOf(modulus number) (*ring, bool) {
	n := modulus.size()
	if n == 0 {
		return nil, false
	}
	r := &ring{shift: uint(bits.LeadingZeros64(modulus[n-1])), size: n}
	for i := range n {
		r.shifted[i] = modulus[i] << r.shift
		if i > 0 {
			// With a shift of 0 this shifts by 64, and so adds nothing.
			r.shifted[i] |= modulus[i-1] >> (partBits - r.shift)
		}
	}
	return r, true
}

// power is what is left of a power by the modulus.
func (r *ring) power(base, exponent []byte) number {
	// A nought ahead, as the highest parts are to be of the ring.
	var whole [parts + 1]uint64
	a := numberOf(base)
	copy(whole[:], a[:])
	factor := r.left(whole[:])
	power := number{1}
	for _, x := range exponent {
		for i := 7; i >= 0; i-- {
			power = r.product(power, power)
			if x>>i&1 == 1 {
				power = r.product(power, factor)
			}
		}
	}
	return r.unshifted(power)
}

// unshifted is what is left of a number of the ring by the modulus itself:
// with both shifted up, what is left is shifted up as far.
func (r *ring) unshifted(a number) number {
	a = r.product(a, number{1 << r.shift})
	for i := range r.size {
		a[i] >>= r.shift
		if i < r.size-1 {
			a[i] |= a[i+1] << (partBits - r.shift)
		}
	}
	return a
}

// product is what is left in the ring of a number of it times another one of no
// more parts.
func (r *ring) product(a, b number) number {
	var whole [2 * parts]uint64
	for i, x := range a[:r.size] {
		addTimes(whole[i:i+r.size+1], b[:r.size], x)
	}
	// As a is of the ring and b has no more parts, the upper half is, too.
	return r.left(whole[:2*r.size])
}

// left is what is left in the ring of a number of more parts than that has;
// as many of them as it has, the highest ones, are of the ring. It uses them up.
func (r *ring) left(whole []uint64) number {
	for i := len(whole) - r.size - 1; i >= 0; i-- {
		r.takeOff(whole[i : i+r.size+1])
	}
	var rest number
	copy(rest[:], whole[:r.size])
	return rest
}

// takeOff takes the ring's modulus off a number of one more part, as often as
// that goes. But for the lowest part the number is of the ring, so that it goes
// less than 2^64 times.
func (r *ring) takeOff(a []uint64) {
	m := r.shifted[:r.size]
	n := len(m)
	// Of the highest parts alone, it is the quotient or up to 2 more (Knuth,
	// The Art of Computer Programming, 4.3.1, theorem B).
	guess := uint64(math.MaxUint64)
	if a[n] < m[n-1] {
		guess, _ = bits.Div64(a[n], a[n-1], m[n-1])
	}
	a[n] -= subTimes(a, m, guess)
	// What is left has no part over the modulus': one tells that it went below
	// 0, as the guess was too great.
	for a[n] != 0 {
		a[n] += add(a, m)
	}
}

// addTimes adds b times n to a, whose part over b's is 0.
func addTimes(a, b []uint64, n uint64) {
	var carry uint64
	for i, x := range b {
		carry, a[i] = mulAdd(x, n, a[i], carry)
	}
	a[len(b)] = carry
}

// subTimes takes b times n off the lowest parts of a, and is what is to be taken
// off the part over them.
func subTimes(a, b []uint64, n uint64) uint64 {
	var carry, borrow uint64
	for i, x := range b {
		high, low := mulAdd(x, n, carry, 0)
		a[i], borrow = bits.Sub64(a[i], low, 0)
		// If high is 2^64 - 1 then low is 0, and nothing is borrowed.
		carry = high + borrow
	}
	return carry
}

// add adds b to the lowest parts of a, and is what is to be added to the part
// over them.
func add(a, b []uint64) uint64 {
	var carry uint64
	for i, x := range b {
		a[i], carry = bits.Add64(a[i], x, carry)
	}
	return carry
}

// mulAdd is x*y + m + n in two halves, the high one first: at most
// (2^64-1)^2 + 2*(2^64-1) = 2^128 - 1, so the high half never overflows.
func mulAdd(x, y, m, n uint64) (uint64, uint64) {
	high, low := bits.Mul64(x, y)
	low, carry := bits.Add64(low, m, 0)
	high += carry
	low, carry = bits.Add64(low, n, 0)
	return high + carry, low
}
