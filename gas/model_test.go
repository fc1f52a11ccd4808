package gas_test

import (
	"math/big"
	"math/rand/v2"
	"testing"

	"smithy/api"
)

const ones = 1<<64 - 1

// edges are the lengths that stand at a word's ends, and the greatest ones.
func edges() []uint64 {
	l := []uint64{0, 1, 31, 32, 33, 63, 64, 65, 95, 96, 97}
	for n := uint64(1<<32 - 66); n <= 1<<32; n++ {
		l = append(l, n)
	}
	return l
}

// lengths are the edges, and drawn lengths of each size, the same in each run.
func lengths() []uint64 {
	l, r := edges(), rand.New(rand.NewPCG(12, 1))
	for i := range 2000 {
		l = append(l, r.Uint64N(1<<(1+i%32)))
	}
	return l
}

// modelWords is how many words so many bytes are: the whole ones, and one more
// for what is behind them.
func modelWords(n uint64) *big.Int {
	words, behind := new(big.Int).DivMod(long(n), long(32), new(big.Int))
	if behind.Sign() > 0 {
		words.Add(words, long(1))
	}
	return words
}

func long(n uint64) *big.Int { return new(big.Int).SetUint64(n) }

// priced is a number, and rows of how much and how many.
func priced(base uint64, rows ...*big.Int) *big.Int {
	sum := long(base)
	for i := 0; i < len(rows); i += 2 {
		sum.Add(sum, new(big.Int).Mul(rows[i], rows[i+1]))
	}
	return sum
}

// check holds a price against what it is to be, which is never longer than 64
// bits.
func check(t *testing.T, what string, n any, got uint64, want *big.Int) {
	t.Helper()
	if !want.IsUint64() || got != want.Uint64() {
		t.Errorf("%s of %v = %d, want %s", what, n, got, want)
	}
}

// The values that a slot is said to have in the rows below.
const (
	nought = iota
	one
	two
	three
)

// row is what the chapter says of a store of a slot that isn't cold.
type row struct {
	first, now, next int
	price            uint64
	refund           int64
}

// rows are all ways in which three words may be 0 or not, and the same or not,
// worked out from the chapter by hand.
func rows() []row {
	return []row{
		{nought, nought, nought, 100, 0},
		{nought, nought, one, 20000, 0},
		{nought, one, nought, 100, 19900},
		{nought, one, one, 100, 0},
		{nought, one, two, 100, 0},
		{one, nought, nought, 100, 0},
		{one, nought, one, 100, -2000},
		{one, nought, two, 100, -4800},
		{one, one, nought, 2900, 4800},
		{one, one, one, 100, 0},
		{one, one, two, 2900, 0},
		{one, two, nought, 100, 4800},
		{one, two, one, 100, 2800},
		{one, two, two, 100, 0},
		{one, two, three, 100, 0},
	}
}

// sets are the words that the rows' values may stand for: 0, and three that
// aren't, which differ from each other and from 0 in few places.
func sets() [][4]api.Word {
	return [][4]api.Word{
		{{}, {1}, {2}, {3}},
		{{}, {0, 1}, {0, 2}, {0, 3}},
		{{}, {0, 0, 1}, {0, 0, 2}, {0, 0, 3}},
		{{}, {0, 0, 0, 1}, {0, 0, 0, 2}, {0, 0, 0, 3}},
		{{}, {0, 0, 0, 1 << 63}, {0, 0, 0, 1 << 62}, {0, 0, 0, 3 << 62}},
		{{}, {7}, {7, 0, 0, 1}, {7, 0, 0, 2}},
		{{}, {7, 0, 0, 5}, {7, 0, 1, 5}, {7, 1, 0, 5}},
		{{}, {1 << 63}, {0, 1}, {0, 0, 0, 1}},
		{{}, {ones, ones, ones, ones}, {ones, ones, ones, ones - 1}, {ones - 1, ones, ones, ones}},
		{{}, {1 << 32}, {1}, {1 << 8}},
	}
}

// modelStore is the chapter's paragraph on stores, clause by clause.
func modelStore(first, now, next api.Word, cold bool) (uint64, int64) {
	zero := api.Word{}
	price, refund := uint64(0), int64(0)
	if cold {
		price = 2100
	}
	switch {
	case now == next:
		return price + 100, 0
	case first == now && first == zero:
		return price + 20000, 0
	case first == now && next == zero:
		return price + 2900, 4800
	case first == now:
		return price + 2900, 0
	}
	if first != zero && now == zero {
		refund -= 4800
	}
	if first != zero && next == zero {
		refund += 4800
	}
	if first == next && first == zero {
		refund += 19900
	}
	if first == next && first != zero {
		refund += 2800
	}
	return price + 100, refund
}
