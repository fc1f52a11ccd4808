package gas_test

import (
	"math/rand/v2"
	"testing"

	"smithy/api"
	"smithy/gas"
)

// store holds what Sstore answers against what it is to answer.
func store(t *testing.T, first, now, next api.Word, cold bool, price uint64, refund int64) {
	t.Helper()
	before := [3]api.Word{first, now, next}
	if p, r := gas.Sstore(first, now, next, cold); p != price || r != refund {
		t.Errorf("Sstore(%v, %v, %v, %t) = %d, %d, want %d, %d", first, now, next, cold, p, r, price, refund)
	}
	if before != [3]api.Word{first, now, next} {
		t.Errorf("Sstore has changed %v", before)
	}
}

func TestP121Sstore(t *testing.T) {
	for _, words := range sets() {
		for _, x := range rows() {
			// Which of the three words stands for which value is all the same.
			for turn := range 3 {
				of := [4]api.Word{words[0], words[1+turn], words[1+(turn+1)%3], words[1+(turn+2)%3]}
				first, now, next := of[x.first], of[x.now], of[x.next]
				store(t, first, now, next, false, x.price, x.refund)
				store(t, first, now, next, true, 2100+x.price, x.refund)
			}
		}
	}
}

// All rows of three among words that differ from each other in one bit.
func TestP121SstoreOfEachBit(t *testing.T) {
	for bit := range 256 {
		a, b := api.Word{}, api.Word{5, 6, 7, 8}
		a[bit/64] = 1 << (bit % 64)
		c := b
		c[bit/64] ^= 1 << (bit % 64)
		l := []api.Word{{}, a, b, c}
		for i := range 64 {
			first, now, next := l[i%4], l[i/4%4], l[i/16]
			for _, cold := range []bool{false, true} {
				price, refund := modelStore(first, now, next, cold)
				store(t, first, now, next, cold, price, refund)
			}
		}
	}
}

func TestP121SstoreOfDrawnWords(t *testing.T) {
	r := rand.New(rand.NewPCG(12, 4))
	for i := range 20000 {
		l := []api.Word{{}, drawn(r), drawn(r), drawn(r)}
		first, now, next := l[r.IntN(4)], l[r.IntN(4)], l[r.IntN(4)]
		price, refund := modelStore(first, now, next, i%2 == 0)
		store(t, first, now, next, i%2 == 0, price, refund)
	}
}

// drawn is a word in some of whose parts there is something.
func drawn(r *rand.Rand) api.Word {
	a := api.Word{}
	for i := range a {
		if r.IntN(2) == 0 {
			a[i] = r.Uint64() >> r.IntN(64)
		}
	}
	return a
}

// run makes a row of stores to a slot, and answers what it refunded in all,
// and whether that was below 0 behind any of them.
func run(first api.Word, row []api.Word) (sum int64, below bool) {
	now := first
	for i, next := range row {
		_, refund := gas.Sstore(first, now, next, i == 0)
		sum += refund
		below = below || sum < 0
		now = next
	}
	return sum, below
}

func TestP122NeverBelow(t *testing.T) {
	for _, words := range sets() {
		for length := 1; length <= 6; length++ {
			all := 1
			for range length {
				all *= 3
			}
			for i := range 3 * all {
				row, rest := make([]api.Word, length), i/3
				for j := range row {
					row[j], rest = words[rest%3], rest/3
				}
				if sum, below := run(words[i%3], row); below {
					t.Fatalf("from %v, %v refund %d", words[i%3], row, sum)
				}
			}
		}
	}
}

func TestP122NeverBelowOfLongRows(t *testing.T) {
	r := rand.New(rand.NewPCG(12, 5))
	for range 300 {
		l := []api.Word{{}, drawn(r), drawn(r), drawn(r)}
		first, row := l[r.IntN(4)], make([]api.Word, 1+r.IntN(2000))
		for i := range row {
			row[i] = l[r.IntN(4)]
		}
		if sum, below := run(first, row); below {
			t.Fatalf("from %v, a row of %d stores refunds %d", first, len(row), sum)
		}
	}
}

// What rows of stores refund in all: what was refunded for a slot's being 0 is
// taken back when it isn't any more, no more and no less.
func TestP122WhatRowsRefund(t *testing.T) {
	a, b, c := api.Word{}, api.Word{1}, api.Word{2}
	for i, x := range []struct {
		first api.Word
		row   []api.Word
		want  int64
	}{
		{a, []api.Word{b}, 0},
		{a, []api.Word{b, a}, 19900},
		{a, []api.Word{b, c, a}, 19900},
		{a, []api.Word{b, a, b}, 19900},
		{a, []api.Word{b, a, b, a}, 39800},
		{b, []api.Word{a}, 4800},
		{b, []api.Word{a, a}, 4800},
		{b, []api.Word{a, b}, 2800},
		{b, []api.Word{a, c}, 0},
		{b, []api.Word{a, c, a}, 4800},
		{b, []api.Word{a, c, b}, 2800},
		{b, []api.Word{a, c, a, b}, 2800},
		{b, []api.Word{c, b}, 2800},
		{b, []api.Word{c, a, b}, 2800},
		{b, []api.Word{a, b, a}, 7600},
		{b, []api.Word{a, b, a, b}, 5600},
	} {
		if sum, below := run(x.first, x.row); sum != x.want || below {
			t.Errorf("row %d refunds %d, want %d", i, sum, x.want)
		}
	}
}
