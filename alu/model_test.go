package alu_test

import (
	"math/big"
	"math/rand/v2"
	"testing"

	"smithy/alu"
	"smithy/api"
	"smithy/sign"
	"smithy/wide"
	"smithy/word"
)

const ones = 1<<64 - 1

var (
	zero  = api.Word{}
	one   = api.Word{1}
	two   = api.Word{2}
	full  = api.Word{ones, ones, ones, ones}
	least = api.Word{0, 0, 0, 1 << 63}
	most  = api.Word{ones, ones, ones, 1<<63 - 1}
	round = new(big.Int).Lsh(big.NewInt(1), 256)
	half  = new(big.Int).Lsh(big.NewInt(1), 255)
)

// reckoner is a line of the chapter: what an instruction puts, once by the
// layers that the chapter names, once by numbers of any length.
type reckoner struct {
	op      byte
	name    string
	takes   int
	layers  func(a, b, c api.Word) api.Word
	numbers func(a, b, c *big.Int) *big.Int
}

// reckoners are all lines of the chapter.
func reckoners() []reckoner {
	return append(append(sums(), orders()...), shiftsAndBits()...)
}

func sums() []reckoner {
	return []reckoner{
		{0x01, "ADD", 2, func(a, b, _ api.Word) api.Word { return word.Add(a, b) },
			func(a, b, _ *big.Int) *big.Int { return new(big.Int).Add(a, b) }},
		{0x02, "MUL", 2, func(a, b, _ api.Word) api.Word { return word.Mul(a, b) },
			func(a, b, _ *big.Int) *big.Int { return new(big.Int).Mul(a, b) }},
		{0x03, "SUB", 2, func(a, b, _ api.Word) api.Word { return word.Sub(a, b) },
			func(a, b, _ *big.Int) *big.Int { return new(big.Int).Sub(a, b) }},
		{0x04, "DIV", 2, func(a, b, _ api.Word) api.Word { return first(wide.Div(a, b)) },
			func(a, b, _ *big.Int) *big.Int { return divided(a, b) }},
		{0x05, "SDIV", 2, func(a, b, _ api.Word) api.Word { return first(sign.Div(a, b)) },
			func(a, b, _ *big.Int) *big.Int { return divided(signed(a), signed(b)) }},
		{0x06, "MOD", 2, func(a, b, _ api.Word) api.Word { return second(wide.Div(a, b)) },
			func(a, b, _ *big.Int) *big.Int { return rest(a, b) }},
		{0x07, "SMOD", 2, func(a, b, _ api.Word) api.Word { return second(sign.Div(a, b)) },
			func(a, b, _ *big.Int) *big.Int { return rest(signed(a), signed(b)) }},
		{0x08, "ADDMOD", 3, wide.AddMod,
			func(a, b, c *big.Int) *big.Int { return rest(new(big.Int).Add(a, b), c) }},
		{0x09, "MULMOD", 3, wide.MulMod,
			func(a, b, c *big.Int) *big.Int { return rest(new(big.Int).Mul(a, b), c) }},
		{0x0a, "EXP", 2, func(a, b, _ api.Word) api.Word { return wide.Exp(a, b) },
			func(a, b, _ *big.Int) *big.Int { return new(big.Int).Exp(a, b, round) }},
		{0x0b, "SIGNEXTEND", 2, func(a, b, _ api.Word) api.Word { return sign.Extend(a, b) },
			func(a, b, _ *big.Int) *big.Int { return extended(a, b) }},
	}
}

func orders() []reckoner {
	return []reckoner{
		{0x10, "LT", 2, func(a, b, _ api.Word) api.Word { return flag(word.Compare(a, b) == -1) },
			func(a, b, _ *big.Int) *big.Int { return told(a.Cmp(b) < 0) }},
		{0x11, "GT", 2, func(a, b, _ api.Word) api.Word { return flag(word.Compare(a, b) == 1) },
			func(a, b, _ *big.Int) *big.Int { return told(a.Cmp(b) > 0) }},
		{0x12, "SLT", 2, func(a, b, _ api.Word) api.Word { return flag(sign.Less(a, b)) },
			func(a, b, _ *big.Int) *big.Int { return told(signed(a).Cmp(signed(b)) < 0) }},
		{0x13, "SGT", 2, func(a, b, _ api.Word) api.Word { return flag(sign.Less(b, a)) },
			func(a, b, _ *big.Int) *big.Int { return told(signed(a).Cmp(signed(b)) > 0) }},
		{0x14, "EQ", 2, func(a, b, _ api.Word) api.Word { return flag(word.Compare(a, b) == 0) },
			func(a, b, _ *big.Int) *big.Int { return told(a.Cmp(b) == 0) }},
		{0x15, "ISZERO", 1, func(a, _, _ api.Word) api.Word { return flag(word.Len(a) == 0) },
			func(a, _, _ *big.Int) *big.Int { return told(a.Sign() == 0) }},
	}
}

func shiftsAndBits() []reckoner {
	return []reckoner{
		{0x16, "AND", 2, func(a, b, _ api.Word) api.Word { return word.And(a, b) },
			func(a, b, _ *big.Int) *big.Int { return new(big.Int).And(a, b) }},
		{0x17, "OR", 2, func(a, b, _ api.Word) api.Word { return word.Or(a, b) },
			func(a, b, _ *big.Int) *big.Int { return new(big.Int).Or(a, b) }},
		{0x18, "XOR", 2, func(a, b, _ api.Word) api.Word { return word.Xor(a, b) },
			func(a, b, _ *big.Int) *big.Int { return new(big.Int).Xor(a, b) }},
		{0x19, "NOT", 1, func(a, _, _ api.Word) api.Word { return word.Not(a) },
			func(a, _, _ *big.Int) *big.Int { return new(big.Int).Not(a) }},
		{0x1a, "BYTE", 2, func(a, b, _ api.Word) api.Word { return byteOf(a, b) },
			func(a, b, _ *big.Int) *big.Int { return byteByDividing(a, b) }},
		{0x1b, "SHL", 2, func(a, b, _ api.Word) api.Word { return word.Shl(b, places(a)) },
			func(a, b, _ *big.Int) *big.Int { return new(big.Int).Mul(b, power(a)) }},
		{0x1c, "SHR", 2, func(a, b, _ api.Word) api.Word { return word.Shr(b, places(a)) },
			func(a, b, _ *big.Int) *big.Int { return new(big.Int).Div(b, power(a)) }},
		{0x1d, "SAR", 2, func(a, b, _ api.Word) api.Word { return sign.Sar(b, places(a)) },
			// Div cuts down, as its divisor is above 0.
			func(a, b, _ *big.Int) *big.Int { return new(big.Int).Div(signed(b), power(a)) }},
	}
}

func first(a, _ api.Word) api.Word { return a }

func second(_, b api.Word) api.Word { return b }

func flag(so bool) api.Word { return wordOf(told(so)) }

func told(so bool) *big.Int {
	if so {
		return big.NewInt(1)
	}
	return new(big.Int)
}

// places is how far a word shifts: by 1000 or more it shifts like by 1000.
func places(a api.Word) uint {
	if word.Compare(a, word.Of(1000)) > 0 {
		return 1000
	}
	return uint(a[0])
}

// power is 2^a, but for a beyond 1000, which divides to the same as 2^1000.
func power(a *big.Int) *big.Int {
	if a.Cmp(big.NewInt(1000)) > 0 {
		a = big.NewInt(1000)
	}
	return new(big.Int).Exp(big.NewInt(2), a, nil)
}

func byteOf(a, b api.Word) api.Word {
	if word.Compare(a, word.Of(32)) >= 0 {
		return zero
	}
	return word.Of(uint64(word.Bytes(b)[a[0]]))
}

func byteByDividing(a, b *big.Int) *big.Int {
	if a.Cmp(big.NewInt(32)) >= 0 {
		return new(big.Int)
	}
	up := new(big.Int).Exp(big.NewInt(256), new(big.Int).Sub(big.NewInt(31), a), nil)
	return rest(new(big.Int).Div(b, up), big.NewInt(256))
}

// extended is the lowest a + 1 bytes of b, less what they go round by, if
// their highest bit is 1.
func extended(a, b *big.Int) *big.Int {
	if a.Cmp(big.NewInt(30)) > 0 {
		return b
	}
	over := new(big.Int).Exp(big.NewInt(256), new(big.Int).Add(a, big.NewInt(1)), nil)
	low := rest(b, over)
	if new(big.Int).Add(low, low).Cmp(over) >= 0 {
		low.Sub(low, over)
	}
	return low
}

// divided is cut towards 0; Quo does so.
func divided(a, b *big.Int) *big.Int {
	if b.Sign() == 0 {
		return new(big.Int)
	}
	return new(big.Int).Quo(a, b)
}

// rest has the sign of a; Rem does so.
func rest(a, b *big.Int) *big.Int {
	if b.Sign() == 0 {
		return new(big.Int)
	}
	return new(big.Int).Rem(a, b)
}

func signed(a *big.Int) *big.Int {
	if a.Cmp(half) >= 0 {
		return new(big.Int).Sub(a, round)
	}
	return a
}

func number(a api.Word) *big.Int {
	b := word.Bytes(a)
	return new(big.Int).SetBytes(b[:])
}

func wordOf(n *big.Int) api.Word {
	return word.From(new(big.Int).Mod(n, round).Bytes())
}

// minus is the word of -n, n being from 1 on.
func minus(n uint64) api.Word { return api.Word{-n, ones, ones, ones} }

// edges are the words at which instructions turn, of both signs.
func edges() []api.Word {
	l := []api.Word{zero, one, two, full, least, most, word.Add(least, one), word.Sub(most, one)}
	for _, n := range []uint64{3, 7, 8, 30, 31, 32, 33, 63, 64, 65, 127, 128, 255, 256, 257, 1000, 1<<32 - 1, 1 << 32, 1<<32 + 1, 1 << 63, ones} {
		l = append(l, word.Of(n))
	}
	for _, n := range []uint64{2, 3, 7, 8, 128, 129, 255, 256, 257, ones} {
		l = append(l, minus(n))
	}
	for _, n := range []uint{64, 65, 128, 192, 254} {
		a := word.Shl(one, n)
		l = append(l, a, word.Sub(a, one), word.Add(a, one), word.Add(a, word.Of(31)), word.Sub(zero, a))
	}
	return l
}

// anyWord is a word of any length, with its bits turned as often as not.
func anyWord(r *rand.Rand) api.Word {
	a := word.Shr(api.Word{r.Uint64(), r.Uint64(), r.Uint64(), r.Uint64()}, uint(r.IntN(256)))
	if r.IntN(2) == 0 {
		return a
	}
	return word.Not(a)
}

// others are words that aren't edges, but for those told by chance.
func others(n int, seed uint64) []api.Word {
	r := rand.New(rand.NewPCG(seed, 17))
	var l []api.Word
	for range n {
		l = append(l, anyWord(r))
	}
	return l
}

// check holds what an instruction puts against the chapter's line.
func check(t *testing.T, x reckoner, a, b, c api.Word) {
	t.Helper()
	got, ok := alu.Do(x.op, a, b, c)
	if want := x.layers(a, b, c); got != want || !ok {
		t.Errorf("Do(%s, %x, %x, %x) = %x, %t, want %x", x.name, a, b, c, got, ok, want)
	}
	if want := wordOf(x.numbers(number(a), number(b), number(c))); got != want {
		t.Errorf("Do(%s, %x, %x, %x) = %x, want the number %x", x.name, a, b, c, got, want)
	}
}

// do is what an instruction puts that reckons.
func do(t *testing.T, op byte, words ...api.Word) api.Word {
	t.Helper()
	words = append(words, zero, zero)
	got, ok := alu.Do(op, words[0], words[1], words[2])
	if !ok {
		t.Errorf("Do(%#x, %x) is none that reckons", op, words)
	}
	return got
}
