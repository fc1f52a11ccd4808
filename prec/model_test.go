package prec_test

import (
	"bytes"
	"math"
	"math/big"
	"slices"
	"testing"

	"smithy/api"
	"smithy/modexp"
	"smithy/prec"
	"smithy/sha"
)

const (
	ones = math.MaxUint64
	head = 96 // bytes of the three lengths
)

// told is what the chapter's table says of a call.
type told struct {
	does    bool
	answer  []byte
	price   uint64
	refused bool
}

// model is the chapter's table, by the layers that it names.
func model(n int, input []byte) told {
	words := uint64(0)
	for range slices.Chunk(input, 32) {
		words++
	}
	switch n {
	case 2:
		hash := sha.Sum(input)
		return told{does: true, answer: hash[:], price: 60 + 12*words}
	case 4:
		return told{does: true, answer: bytes.Clone(input), price: 15 + 3*words}
	case 5:
		power, err := modexp.Run(input)
		return told{does: true, answer: power, price: modexp.Gas(input), refused: err != api.OK}
	}
	return told{}
}

// about are gases of interest of a price: those next to it, and at the ends.
func about(price uint64) []uint64 {
	l := []uint64{0, 1, price / 2, price, 1 << 40, 1 << 63, ones - 1, ones}
	if price > 0 {
		l = append(l, price-1)
	}
	if price < ones {
		l = append(l, price+1)
	}
	return l
}

// checkCall holds all that is told of a call against what is wanted.
func checkCall(t *testing.T, n int, input []byte, want told) {
	t.Helper()
	if got := prec.Has(n); got != want.does {
		t.Errorf("Has(%d) = %t", n, got)
	}
	if got := prec.Price(n, input); got != want.price {
		t.Errorf("Price(%d, %.200x) = %d, want %d", n, input, got, want.price)
	}
	for _, gas := range about(want.price) {
		checkRun(t, n, input, gas, want)
	}
}

// checkRun holds what is answered with a gas against what is wanted.
func checkRun(t *testing.T, n int, input []byte, gas uint64, want told) {
	t.Helper()
	answer, left, ok := prec.Run(n, input, gas)
	if want.refused || gas < want.price {
		if len(answer) != 0 || left != 0 || ok {
			t.Errorf("Run(%d, %.200x, %d) = %.200x, %d, %t, want nothing, 0, false", n, input, gas, answer, left, ok)
		}
		return
	}
	if !bytes.Equal(answer, want.answer) || left != gas-want.price || !ok {
		t.Errorf("Run(%d, %.200x, %d) = %.200x, %d, %t, want %.200x, %d, true",
			n, input, gas, answer, left, ok, want.answer, gas-want.price)
	}
}

// check holds all that is told of a call against the model.
func check(t *testing.T, n int, input []byte) {
	t.Helper()
	checkCall(t, n, input, model(n, input))
}

// some are n bytes that look random and are the same in each run.
func some(seed, n int) []byte {
	b, x := make([]byte, n), uint64(seed)
	for i := range b {
		x = x*6364136223846793005 + 1442695040888963407
		b[i] = byte(x >> 56)
	}
	return b
}

func noughts(n int) []byte { return make([]byte, n) }

func allBits(n int) []byte { return bytes.Repeat([]byte{255}, n) }

func long(n uint64) *big.Int { return new(big.Int).SetUint64(n) }

func two(n int) *big.Int { return new(big.Int).Lsh(big.NewInt(1), uint(n)) }

// lengths are three lengths as number 5 takes them, ahead of what they tell.
func lengths(base, exponent, modulus *big.Int, rest ...[]byte) []byte {
	b := noughts(head)
	base.FillBytes(b[:32])
	exponent.FillBytes(b[32:64])
	modulus.FillBytes(b[64:])
	return append(b, bytes.Join(rest, nil)...)
}

// three is the input of three numbers for number 5.
func three(base, exponent, modulus []byte) []byte {
	return lengths(long(uint64(len(base))), long(uint64(len(exponent))), long(uint64(len(modulus))), base, exponent, modulus)
}
