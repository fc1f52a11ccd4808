package prec_test

import (
	"encoding/hex"
	"math"
	"math/big"
	"math/rand/v2"
	"slices"
	"strings"
	"testing"

	"smithy/addr"
	"smithy/api"
	"smithy/prec"
	"smithy/word"
)

// doing are the numbers that do something.
var doing = []int{2, 4, 5}

// idle are numbers that do nothing: of built-in contracts, of none, and those
// whose last bytes or absolute value are a number that does something.
var idle = []int{
	0, 1, 3, 6, 7, 8, 9, 10, 11, 16, 20, 32,
	-1, -2, -3, -4, -5, -9, -10, math.MinInt, math.MinInt + 2, math.MinInt + 5, math.MaxInt, math.MaxInt - 1,
	256, 258, 260, 261, -254, -252, -251, 1<<16 + 2, 1<<16 + 4, 1<<16 + 5, 1<<32 + 2, 1<<32 + 4, 1<<32 + 5,
}

// inputs are of each kind that is of interest to any number.
func inputs() [][]byte {
	return [][]byte{
		nil, {}, {0}, {0xab}, []byte("abc"), noughts(31), noughts(32), some(1, 33), some(2, 65), allBits(96), allBits(200),
		three([]byte{3}, []byte{5}, []byte{7}), three(allBits(65), []byte{5}, []byte{7}), lengths(two(255), two(255), two(255)),
	}
}

func TestExamples(t *testing.T) {
	for _, input := range []string{"\xab", "ab"} {
		if answer, left, ok := prec.Run(4, []byte(input), 20); string(answer) != input || left != 2 || !ok {
			t.Errorf("Run(4, %x, 20) = %x, %d, %t", input, answer, left, ok)
		}
		if answer, left, ok := prec.Run(4, []byte(input), 17); len(answer) != 0 || left != 0 || ok {
			t.Errorf("Run(4, %x, 17) = %x, %d, %t", input, answer, left, ok)
		}
	}
}

func TestP161Has(t *testing.T) {
	for _, n := range doing {
		if !prec.Has(n) {
			t.Errorf("Has(%d) = false", n)
		}
	}
	for _, n := range idle {
		if prec.Has(n) {
			t.Errorf("Has(%d) = true", n)
		}
	}
	for n := -70000; n <= 70000; n++ {
		if got, want := prec.Has(n), n == 2 || n == 4 || n == 5; got != want {
			t.Fatalf("Has(%d) = %t", n, got)
		}
	}
}

// The numbers are those that layer 8 tells of addresses.
func TestP161HasByAddress(t *testing.T) {
	for n := range uint64(600) {
		a := addr.Of(word.Of(n))
		if got, want := prec.Has(addr.Precompile(a)), n == 2 || n == 4 || n == 5; got != want {
			t.Errorf("Has of the address %d = %t", n, got)
		}
		a[0] = 1
		if prec.Has(addr.Precompile(a)) {
			t.Errorf("Has(%x) = true", a)
		}
	}
}

// A call of a number that does nothing is that of an account without code.
func TestP161Idle(t *testing.T) {
	for _, n := range idle {
		for _, input := range inputs() {
			checkCall(t, n, input, told{})
			for _, gas := range []uint64{0, 1, 2, 7, 15, 60, 200, 1 << 32, ones} {
				if answer, left, ok := prec.Run(n, input, gas); len(answer) != 0 || left != gas || !ok {
					t.Errorf("Run(%d, %x, %d) = %x, %d, %t", n, input, gas, answer, left, ok)
				}
			}
		}
	}
}

func TestP161Doing(t *testing.T) {
	for _, n := range doing {
		for _, input := range inputs() {
			check(t, n, input)
		}
	}
}

// What numbers 2 and 4 cost at a word's ends, worked out by hand.
func TestP161PricesAtAWordsEnds(t *testing.T) {
	for _, x := range []struct {
		size       int
		hash, same uint64
	}{
		{0, 60, 15}, {1, 72, 18}, {31, 72, 18}, {32, 72, 18}, {33, 84, 21}, {63, 84, 21}, {64, 84, 21}, {65, 96, 24},
		{95, 96, 24}, {96, 96, 24}, {97, 108, 27}, {1024, 444, 111}, {1025, 456, 114},
		{1<<20 - 1, 393276, 98319}, {1 << 20, 393276, 98319}, {1<<20 + 1, 393288, 98322},
	} {
		for _, input := range [][]byte{noughts(x.size), allBits(x.size), some(x.size, x.size)} {
			if got := prec.Price(2, input); got != x.hash {
				t.Errorf("Price(2) of %d bytes = %d, want %d", x.size, got, x.hash)
			}
			if got := prec.Price(4, input); got != x.same {
				t.Errorf("Price(4) of %d bytes = %d, want %d", x.size, got, x.same)
			}
			check(t, 2, input)
			check(t, 4, input)
		}
	}
}

func TestP161AllShortSizes(t *testing.T) {
	for size := range 300 {
		for _, input := range [][]byte{noughts(size), some(size, size)} {
			check(t, 2, input)
			check(t, 4, input)
			check(t, 5, input)
		}
	}
}

// Known hashes, so that number 2 is SHA-256 and no other.
func TestP161KnownHashes(t *testing.T) {
	for _, x := range []struct{ text, want string }{
		{"", "e3b0c44298fc1c149afbf4c8996fb92427ae41e4649b934ca495991b7852b855"},
		{"abc", "ba7816bf8f01cfea414140de5dae2223b00361a396177a9cb410ff61f20015ad"},
		{"abcdbcdecdefdefgefghfghighijhijkijkljklmklmnlmnomnopnopq", "248d6a61d20638b8e5c026930c3e6039a33ce45964ff2167f6ecedd419db06c1"},
		{strings.Repeat("a", 1000000), "cdc76e5c9914fb9281a1c7e284d73e67f1809a48a497200e046d39ccc7112cd0"},
	} {
		answer, _, ok := prec.Run(2, []byte(x.text), ones)
		if got := hex.EncodeToString(answer); got != x.want || !ok {
			t.Errorf("Run(2, %.60s) = %s, %t, want %s", x.text, got, ok, x.want)
		}
	}
}

// What number 5 costs and answers, worked out by hand.
func TestP161PowersByHand(t *testing.T) {
	for i, x := range []struct {
		input  []byte
		price  uint64
		answer string
	}{
		{nil, 200, ""},
		{noughts(head), 200, ""},
		{noughts(1000), 200, ""},
		{lengths(long(0), two(255), long(0)), 200, ""},
		{lengths(long(0), long(ones), long(0), allBits(40)), 200, ""},
		{lengths(long(0), long(0), long(2)), 200, "\x00\x00"},
		{lengths(long(1), long(1), long(1)), 200, "\x00"},
		{three([]byte{3}, []byte{5}, []byte{7}), 200, "\x05"},
		{three([]byte{3}, []byte{5}, []byte{0, 7}), 200, "\x00\x05"},
		{three(nil, nil, []byte{7}), 200, "\x01"},
		{three([]byte{3}, nil, []byte{7}), 200, "\x01"},
		{three(nil, []byte{5}, []byte{7}), 200, "\x00"},
		{three([]byte{3}, []byte{5}, nil), 200, ""},
		{three([]byte{3}, []byte{5}, []byte{0}), 200, "\x00"},
		{three([]byte{3}, []byte{5}, []byte{0, 0, 0}), 200, "\x00\x00\x00"},
		{three([]byte{3}, []byte{5}, []byte{1}), 200, "\x00"},
		{three([]byte{3}, []byte{5}, []byte{0, 1}), 200, "\x00\x00"},
		{append(three([]byte{3}, []byte{5}, []byte{7}), 9, 9), 200, "\x05"},
		{three(allBits(64), []byte{1}, nil), 200, ""},
		// Eight words of 8 bytes, squared, times 255, and divided by 3.
		{three([]byte{2}, allBits(32), noughts(64)), 5440, string(noughts(64))},
		// 256 more steps behind the first 32 bytes.
		{three(allBits(64), allBits(64), []byte{1}), 10901, "\x00"},
		{three(allBits(64), noughts(64), []byte{2}), 5461, "\x01"},
		{three(noughts(33), []byte{16}, nil), 200, ""},
	} {
		if got := prec.Price(5, x.input); got != x.price {
			t.Errorf("row %d: Price = %d, want %d", i, got, x.price)
		}
		checkCall(t, 5, x.input, told{does: true, answer: []byte(x.answer), price: x.price})
		check(t, 5, x.input)
	}
}

// What layer 9 refuses is refused, however great the gas.
func TestP161Refused(t *testing.T) {
	fits := []*big.Int{long(0), long(1), long(64)}
	greats := []*big.Int{long(65), long(256), long(1 << 32), long(1 << 63), long(ones), two(64), two(72), two(192), two(248), two(255)}
	for _, great := range greats {
		for _, fit := range fits {
			for _, rest := range [][]byte{nil, some(5, 64), allBits(300)} {
				for _, input := range [][]byte{
					lengths(great, fit, fit, rest), lengths(fit, fit, great, rest), lengths(great, fit, great, rest),
					lengths(great, great, great, rest), lengths(great, great, fit, rest),
				} {
					checkCall(t, 5, input, told{does: true, price: model(5, input).price, refused: true})
				}
				// Without bytes of a base and a modulus there is nothing to refuse.
				input := lengths(fit, great, fit, rest)
				if fit.Sign() == 0 {
					checkCall(t, 5, input, told{does: true, price: 200})
				} else {
					checkCall(t, 5, input, told{does: true, price: model(5, input).price, refused: true})
				}
			}
		}
	}
}

// What is refused costs what it costs nevertheless.
func TestP161PricesOfRefused(t *testing.T) {
	for _, x := range []struct {
		input []byte
		price uint64
	}{
		{lengths(long(65), long(0), long(0)), 200},
		{lengths(long(0), long(0), long(800)), 3333},
		{lengths(long(1), long(65), long(1)), 200},
		{lengths(long(64), long(65), long(64)), 5632},
		{lengths(long(64), long(65), long(64), noughts(64), []byte{128}), 11072},
		{lengths(long(1<<35), long(0), long(1)), 6148914691236517205}, // 2^64, cut down by 3
		{lengths(long(1<<36), long(0), long(1)), ones},
		{lengths(long(1<<34), long(33), long(1)), 12297829382473034410}, // 2^65, too
		{lengths(long(1<<34), long(34), long(1)), ones},
		{lengths(two(64), long(0), long(1)), ones},
		{lengths(long(1), two(64), long(1)), ones},
		{lengths(long(1), long(1), two(64)), ones},
		{lengths(two(255), two(255), two(255)), ones},
		{allBits(96), ones},
	} {
		if got := model(5, x.input).price; got != x.price {
			t.Errorf("layer 9 says that %x costs %d, want %d", x.input, got, x.price)
		}
		checkCall(t, 5, x.input, told{does: true, price: x.price, refused: true})
	}
}

// Lengths of 32 bytes each, with a great byte at each place of them.
func TestP161GreatBytesOfLengths(t *testing.T) {
	whole := three(some(7, 33), some(8, 40), some(9, 64))
	for place := range head {
		for _, x := range []byte{1, 64, 65, 127, 128, 254, 255} {
			input := slices.Clone(whole)
			input[place] = x
			check(t, 5, input)
			for _, b := range [][]byte{noughts(head), append(noughts(head), allBits(100)...)} {
				b[place] = x
				check(t, 5, b)
			}
		}
	}
}

// An input that ends early has noughts behind.
func TestP161CutOff(t *testing.T) {
	for _, whole := range [][]byte{
		three([]byte{3}, []byte{5}, []byte{7}),
		three(some(1, 3), some(2, 4), some(3, 5)),
		three(some(4, 31), some(5, 33), some(6, 32)),
		three(some(7, 64), some(8, 64), some(9, 64)),
		three(some(7, 64), some(8, 2), append([]byte{0}, some(9, 40)...)),
		three(nil, some(8, 2), some(9, 4)),
		three(some(8, 2), nil, some(9, 4)),
		three(some(8, 2), some(9, 4), nil),
		allBits(200),
	} {
		for size := range len(whole) + 1 {
			cut := whole[:size:size]
			check(t, 5, cut)
			filled := slices.Concat(cut, noughts(400))
			// With these noughts written out, the same comes of it.
			want := model(5, cut)
			if got := model(5, filled); got.price != want.price || got.refused != want.refused {
				t.Fatalf("layer 9 tells %x from the same with noughts behind", cut)
			}
			checkCall(t, 5, filled, want)
		}
	}
}

// Powers of each pair of sizes, with divisors of nought and one among them.
func TestP161PowersOfSizes(t *testing.T) {
	sizes := []int{0, 1, 2, 8, 31, 32, 33, 63, 64, 65}
	for _, x := range sizes {
		for _, y := range sizes {
			for _, z := range sizes {
				nought, one := noughts(z), noughts(z)
				if z > 0 {
					one[z-1] = 1
				}
				for _, modulus := range [][]byte{nought, one, some(x+y, z)} {
					check(t, 5, three(some(y, x), some(z, y), modulus))
				}
			}
		}
	}
}

// What is left and what it costs is the gas; with less it fails.
func TestP162Paid(t *testing.T) {
	r := rand.New(rand.NewPCG(16, 2))
	for i := range 20000 {
		n, input := r.IntN(12)-1, some(i, r.IntN(130))
		if n == 5 {
			input = three(some(i, r.IntN(66)), some(i+1, r.IntN(66)), some(i+2, r.IntN(66)))
			input = input[:len(input)-r.IntN(8)*r.IntN(2)]
		}
		price := prec.Price(n, input)
		gas := r.Uint64() >> r.IntN(64)
		if i%3 > 0 {
			gas = price + uint64(r.IntN(400)) - min(price, uint64(r.IntN(400)))
		}
		want := model(n, input)
		checkRun(t, n, input, gas, want)
		answer, left, ok := prec.Run(n, input, gas)
		if ok && (left+price != gas || left > gas) {
			t.Fatalf("Run(%d, %x, %d) leaves %d of a price of %d", n, input, gas, left, price)
		}
		if !ok && (left != 0 || len(answer) != 0) {
			t.Fatalf("Run(%d, %x, %d) fails with %x and %d", n, input, gas, answer, left)
		}
		if !want.refused && ok != (gas >= price) {
			t.Fatalf("Run(%d, %x, %d) = %t at a price of %d", n, input, gas, ok, price)
		}
	}
}

// Each gas from 0 to above the price, one by one.
func TestP162EachGas(t *testing.T) {
	for _, x := range []struct {
		n     int
		input []byte
		price uint64
	}{
		{2, nil, 60}, {2, []byte{7}, 72}, {2, some(1, 65), 96},
		{4, nil, 15}, {4, []byte{7}, 18}, {4, some(1, 65), 24},
		{5, nil, 200}, {5, three([]byte{3}, []byte{5}, []byte{7}), 200}, {5, three(some(1, 64), allBits(2), some(2, 64)), 320},
		{0, nil, 0}, {1, some(1, 65), 0}, {3, nil, 0}, {9, []byte{7}, 0}, {10, nil, 0}, {-4, []byte{7}, 0},
	} {
		if got := prec.Price(x.n, x.input); got != x.price {
			t.Errorf("Price(%d, %x) = %d, want %d", x.n, x.input, got, x.price)
		}
		for gas := range 2*x.price + 5 {
			answer, left, ok := prec.Run(x.n, x.input, gas)
			switch {
			case gas < x.price && (ok || left != 0 || len(answer) != 0):
				t.Errorf("Run(%d, %x, %d) = %x, %d, %t", x.n, x.input, gas, answer, left, ok)
			case gas >= x.price && (!ok || left != gas-x.price):
				t.Errorf("Run(%d, %x, %d) leaves %d, %t", x.n, x.input, gas, left, ok)
			}
		}
	}
}

// Rows of more than 4 million bytes.
func TestP161LongRows(t *testing.T) {
	row := some(3, 1<<22+1)
	for _, x := range []struct {
		n     int
		price uint64
	}{{2, 1572936}, {4, 393234}} {
		checkCall(t, x.n, row, told{does: true, answer: model(x.n, row).answer, price: x.price})
	}
	check(t, 5, append(three(some(1, 40), some(2, 40), some(3, 40)), row...))
}

// As many bytes as layer 9 takes aren't refused.
func TestP161JustNotRefused(t *testing.T) {
	for _, n := range []int{1, 63, api.MaxPow} {
		input := three(allBits(n), allBits(n), allBits(n))
		if answer, _, ok := prec.Run(5, input, ones); len(answer) != n || !ok {
			t.Errorf("Run(5) of three numbers of %d bytes = %x, %t", n, answer, ok)
		}
	}
}
