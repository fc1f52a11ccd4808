package prec_test

import (
	"bytes"
	"testing"

	"smithy/prec"
)

// roomy are bytes with room behind them, and something in it.
func roomy(b []byte) []byte {
	whole := append(append(make([]byte, 0, len(b)+40), b...), allBits(40)...)
	return whole[:len(b)]
}

// whole are bytes with what lies in the room behind them.
func whole(b []byte) []byte { return bytes.Clone(b[:cap(b)]) }

// wear changes all bytes, those in the room behind them too.
func wear(b []byte) {
	b = b[:cap(b)]
	for i := range b {
		b[i] ^= 255
	}
}

// calls are inputs with room behind them, of each number, paid for or not.
func calls(t *testing.T, one func(t *testing.T, n int, input []byte, gas uint64)) {
	for n := -1; n <= 10; n++ {
		for _, input := range append(inputs(), three(some(1, 64), some(2, 3), some(3, 64)), some(4, 300)) {
			for _, gas := range about(prec.Price(n, input)) {
				one(t, n, roomy(input), gas)
			}
		}
	}
}

func TestHandedInStays(t *testing.T) {
	calls(t, func(t *testing.T, n int, input []byte, gas uint64) {
		before := whole(input)
		prec.Has(n)
		prec.Price(n, input)
		prec.Run(n, input, gas)
		if !bytes.Equal(whole(input), before) {
			t.Errorf("Run(%d, %d bytes, %d) changes what was handed in", n, len(input), gas)
		}
	})
}

func TestHandedInIsNotKept(t *testing.T) {
	calls(t, func(t *testing.T, n int, input []byte, gas uint64) {
		want := model(n, bytes.Clone(input))
		answer, _, _ := prec.Run(n, input, gas)
		before := whole(answer)
		wear(input)
		if !bytes.Equal(whole(answer), before) {
			t.Errorf("Run(%d, %d bytes, %d) answers what was handed in", n, len(input), gas)
		}
		// What was asked of worn bytes tells nothing of the earlier ones.
		prec.Run(n, input, gas)
		wear(input)
		checkRun(t, n, input, gas, want)
	})
}

func TestAnswersAreNobodyElses(t *testing.T) {
	calls(t, func(t *testing.T, n int, input []byte, gas uint64) {
		before := whole(input)
		one, _, _ := prec.Run(n, input, gas)
		other, _, _ := prec.Run(n, input, gas)
		otherBefore := whole(other)
		wear(one)
		if !bytes.Equal(whole(input), before) {
			t.Errorf("what Run(%d, %d bytes, %d) answers is what was handed in", n, len(input), gas)
		}
		if !bytes.Equal(whole(other), otherBefore) {
			t.Errorf("Run(%d, %d bytes, %d) answers the same memory twice", n, len(input), gas)
		}
		checkRun(t, n, input, gas, model(n, input))
	})
}

// No bytes answer nobody's memory either: what is put behind an answer of
// number 4 isn't written behind the input.
func TestAnswersOfNoBytes(t *testing.T) {
	input := roomy(nil)
	before := whole(input)
	for n := range 11 {
		answer, _, ok := prec.Run(n, input, ones)
		if !ok {
			t.Errorf("Run(%d) of no bytes fails", n)
		}
		_ = append(answer, 1, 2, 3)
	}
	if !bytes.Equal(whole(input), before) {
		t.Errorf("behind the input stands %x", whole(input))
	}
}

// Nil and empty inputs are the same.
func TestNilInputs(t *testing.T) {
	for n := -1; n <= 10; n++ {
		want := model(n, nil)
		checkCall(t, n, nil, want)
		checkCall(t, n, []byte{}, want)
		checkCall(t, n, some(1, 9)[9:], want)
	}
}
