package alu_test

import (
	"testing"

	"smithy/api"
	"smithy/word"
)

// alike holds two instructions' words against each other.
func alike(t *testing.T, told string, a, b, one, other api.Word) {
	t.Helper()
	if one != other {
		t.Errorf("%s of %x and %x: %x and %x", told, a, b, one, other)
	}
}

// SUB of b says the same as ADD of what is b below 0: of NOT(b) and one.
func TestP172SubAndAdd(t *testing.T) {
	l := append(edges(), others(30, 11)...)
	for _, a := range l {
		for _, b := range l {
			below := do(t, 0x01, do(t, 0x19, b), one)
			alike(t, "SUB and ADD", a, b, do(t, 0x03, a, b), do(t, 0x01, a, below))
			alike(t, "ADD and SUB", a, b, do(t, 0x01, a, b), do(t, 0x03, a, do(t, 0x03, zero, b)))
			alike(t, "ADD, and SUB of it", a, b, a, do(t, 0x03, do(t, 0x01, a, b), b))
		}
	}
}

// SHL and SHR by a say the same as MUL and DIV by 2^a; from 256 on 2^a goes
// round to 0, by which both answer 0, too.
func TestP172Shifts(t *testing.T) {
	l := append(edges(), others(30, 12)...)
	firsts := edges()
	for n := range uint64(270) {
		firsts = append(firsts, word.Of(n))
	}
	for _, a := range firsts {
		power := do(t, 0x0a, two, a)
		for _, b := range l {
			alike(t, "SHL and MUL", a, b, do(t, 0x1b, a, b), do(t, 0x02, b, power))
			alike(t, "SHL and MUL the other way", a, b, do(t, 0x1b, a, b), do(t, 0x02, power, b))
			alike(t, "SHR and DIV", a, b, do(t, 0x1c, a, b), do(t, 0x04, b, power))
		}
	}
}

// NOT says the same as XOR with all bits.
func TestP172NotAndXor(t *testing.T) {
	for _, a := range append(edges(), others(200, 13)...) {
		alike(t, "NOT and XOR", a, full, do(t, 0x19, a), do(t, 0x18, a, full))
		alike(t, "NOT and XOR the other way", a, full, do(t, 0x19, a), do(t, 0x18, full, a))
	}
}

// LT says the same as GT with the words the other way; and so with signs.
func TestP172LessAndMore(t *testing.T) {
	l := append(edges(), others(30, 14)...)
	for _, a := range l {
		for _, b := range l {
			alike(t, "LT and GT", a, b, do(t, 0x10, a, b), do(t, 0x11, b, a))
			alike(t, "SLT and SGT", a, b, do(t, 0x12, a, b), do(t, 0x13, b, a))
			// With both signs turned the other way, the order stays that of words.
			c, d := do(t, 0x18, a, least), do(t, 0x18, b, least)
			alike(t, "LT and SLT", a, b, do(t, 0x10, a, b), do(t, 0x12, c, d))
		}
	}
}
