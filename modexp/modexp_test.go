package modexp_test

import (
	"bytes"
	"math"
	"math/big"
	"math/rand/v2"
	"slices"
	"strconv"
	"testing"

	"smithy/api"
	"smithy/modexp"
)

const (
	ones = math.MaxUint64
	most = 64 // bytes of a number
	head = 96 // bytes of the three lengths
)

// sizes are those about which a number's parts and words end.
var sizes = []int{0, 1, 2, 7, 8, 9, 15, 16, 17, 31, 32, 33, 63, 64}

// some are n bytes that look random and are the same in each run.
func some(seed, n int) []byte {
	r := rand.NewPCG(uint64(seed), uint64(n))
	b := make([]byte, n)
	for i := range b {
		b[i] = byte(r.Uint64() >> 56)
	}
	return b
}

func noughts(n int) []byte { return make([]byte, n) }

func allBits(n int) []byte { return bytes.Repeat([]byte{255}, n) }

// highest are n bytes with the highest bit alone.
func highest(n int) []byte {
	b := make([]byte, n)
	if n > 0 {
		b[0] = 128
	}
	return b
}

// small are n bytes of the number x, or of its last byte's.
func small(n int, x byte) []byte {
	b := make([]byte, n)
	if n > 0 {
		b[n-1] = x
	}
	return b
}

// with are n bytes that look random, so many of which are noughts ahead.
func with(seed, n, ahead int) []byte {
	b := some(seed, n)
	clear(b[:ahead])
	return b
}

// kinds are numbers of n bytes of each kind that is of interest.
func kinds(seed, n int) [][]byte {
	odd, even := some(seed, n), some(seed+1, n)
	if n > 0 {
		odd[n-1] |= 1
		even[n-1] &= 254
	}
	return [][]byte{
		noughts(n), small(n, 1), small(n, 2), allBits(n), highest(n), odd, even,
		with(seed, n, min(n, 1)), with(seed, n, n/2), with(seed, n, max(n-1, 0)),
	}
}

func number(b []byte) *big.Int { return new(big.Int).SetBytes(b) }

func plus(a *big.Int, n int64) *big.Int { return new(big.Int).Add(a, big.NewInt(n)) }

func minus(a *big.Int, n int64) *big.Int { return plus(a, -n) }

func two(n int) *big.Int { return new(big.Int).Lsh(big.NewInt(1), uint(n)) }

func long(n int) *big.Int { return big.NewInt(int64(n)) }

// modelPow is the power as the chapter's section 'Words' says.
func modelPow(base, exponent, modulus []byte) ([]byte, api.Errno) {
	if len(base) > most || len(exponent) > most || len(modulus) > most {
		return nil, api.ErrLong
	}
	power, m := make([]byte, len(modulus)), number(modulus)
	if m.Sign() != 0 {
		p := new(big.Int).Exp(number(base), number(exponent), m)
		p.Mod(p, m).FillBytes(power)
	}
	return power, api.OK
}

// read are n bytes from a place on of what has noughts behind without an end.
func read(b []byte, at *big.Int, n int) []byte {
	l := make([]byte, n)
	for i := range l {
		if place := plus(at, int64(i)); place.Cmp(long(len(b))) < 0 {
			l[i] = b[place.Int64()]
		}
	}
	return l
}

// modelLengths are the three lengths that an input tells.
func modelLengths(b []byte) (base, exponent, modulus *big.Int) {
	return number(read(b, long(0), 32)), number(read(b, long(32), 32)), number(read(b, long(64), 32))
}

// modelGas is the gas as the chapter's section 'Words' says.
func modelGas(b []byte) uint64 {
	base, exponent, modulus := modelLengths(b)
	if base.Sign() == 0 && modulus.Sign() == 0 {
		return 200
	}
	if max(base.BitLen(), exponent.BitLen(), modulus.BitLen()) > 64 {
		return ones
	}
	m := base
	if modulus.Cmp(base) > 0 {
		m = modulus
	}
	m = new(big.Int).Div(plus(m, 7), long(8))
	m.Mul(m, m)
	first := 32
	i := new(big.Int)
	if exponent.Cmp(long(32)) <= 0 {
		first = int(exponent.Int64())
	} else {
		i.Mul(minus(exponent, 32), long(8))
	}
	if e := number(read(b, plus(base, head), first)); e.Sign() != 0 {
		i = plus(i, int64(e.BitLen()-1))
	}
	if i.Sign() == 0 {
		i = long(1)
	}
	gas := m.Mul(m, i)
	gas.Div(gas, long(3))
	if gas.Cmp(long(200)) < 0 {
		return 200
	}
	if gas.BitLen() > 64 {
		return ones
	}
	return gas.Uint64()
}

// modelRun is the power that an input asks for, as the chapter says.
func modelRun(b []byte) ([]byte, api.Errno) {
	base, exponent, modulus := modelLengths(b)
	if base.Sign() == 0 && modulus.Sign() == 0 {
		return nil, api.OK
	}
	for _, n := range []*big.Int{base, exponent, modulus} {
		if n.Cmp(long(most)) > 0 {
			return nil, api.ErrLong
		}
	}
	x, y, z := int(base.Int64()), int(exponent.Int64()), int(modulus.Int64())
	return modelPow(read(b, long(head), x), read(b, long(head+x), y), read(b, long(head+x+y), z))
}

// input is an input with these lengths, and what stands behind them.
func input(base, exponent, modulus *big.Int, rest ...[]byte) []byte {
	b := make([]byte, head)
	base.FillBytes(b[:32])
	exponent.FillBytes(b[32:64])
	modulus.FillBytes(b[64:])
	return append(b, bytes.Join(rest, nil)...)
}

// whole is the input of three numbers.
func whole(base, exponent, modulus []byte) []byte {
	return input(long(len(base)), long(len(exponent)), long(len(modulus)), base, exponent, modulus)
}

func checkPow(t *testing.T, base, exponent, modulus []byte) {
	t.Helper()
	got, err := modexp.Pow(base, exponent, modulus)
	want, wantErr := modelPow(base, exponent, modulus)
	if !bytes.Equal(got, want) || err != wantErr {
		t.Fatalf("Pow(%x, %x, %x) = %x, %v, want %x, %v", base, exponent, modulus, got, err, want, wantErr)
	}
}

func checkGas(t *testing.T, b []byte) {
	t.Helper()
	if got, want := modexp.Gas(b), modelGas(b); got != want {
		t.Fatalf("Gas(%x) = %d, want %d", b, got, want)
	}
}

func checkPrice(t *testing.T, b []byte, want uint64) {
	t.Helper()
	if got := modexp.Gas(b); got != want {
		t.Errorf("Gas(%.200x) = %d, want %d", b, got, want)
	}
	checkGas(t, b)
}

// checkRun holds both what an input answers and what it costs.
func checkRun(t *testing.T, b []byte) {
	t.Helper()
	got, err := modexp.Run(b)
	want, wantErr := modelRun(b)
	if !bytes.Equal(got, want) || err != wantErr {
		t.Fatalf("Run(%x) = %x, %v, want %x, %v", b, got, err, want, wantErr)
	}
	checkGas(t, b)
}

func TestP91PowOfAllSizes(t *testing.T) {
	for i, x := range sizes {
		for j, y := range sizes {
			for k, z := range sizes {
				seed := 10000*i + 100*j + k
				bases, exponents, moduli := kinds(seed, x), kinds(seed+1, y), kinds(seed+2, z)
				for n := range 2 * len(bases) {
					// In each round another kind of each stands beside the others'.
					checkPow(t, bases[(n+seed)%len(bases)], exponents[(3*n+j)%len(bases)], moduli[(7*n+n/len(bases)+i)%len(bases)])
				}
			}
		}
	}
}

func TestP91PowOfAllKinds(t *testing.T) {
	for _, n := range []int{1, 8, 9, 64} {
		for _, base := range kinds(n, n) {
			for _, exponent := range kinds(n+1, min(n, 9)) {
				for _, modulus := range kinds(n+2, n) {
					checkPow(t, base, exponent, modulus)
				}
			}
		}
	}
}

func TestP91PowOfNoBytes(t *testing.T) {
	for i, x := range []struct {
		base, exponent, modulus []byte
		want                    string
	}{
		{nil, nil, nil, ""},
		{[]byte{}, []byte{}, []byte{}, ""},
		{[]byte{3}, []byte{5}, nil, ""},
		{[]byte{3}, []byte{5}, []byte{}, ""},
		{allBits(64), allBits(64), nil, ""},
		{nil, nil, []byte{7}, "\x01"},
		{nil, nil, []byte{0, 0, 7}, "\x00\x00\x01"},
		{nil, []byte{0}, []byte{7}, "\x01"},
		{nil, []byte{1}, []byte{7}, "\x00"},
		{[]byte{0, 0}, nil, []byte{7}, "\x01"},
		{[]byte{3}, nil, []byte{7}, "\x01"},
		{[]byte{3}, []byte{}, []byte{0, 1}, "\x00\x00"},
		{[]byte{3}, nil, []byte{0}, "\x00"},
		{nil, nil, []byte{0, 0}, "\x00\x00"},
		{nil, nil, []byte{1}, "\x00"},
	} {
		got, err := modexp.Pow(x.base, x.exponent, x.modulus)
		if string(got) != x.want || err != api.OK {
			t.Errorf("%d: Pow(%x, %x, %x) = %x, %v, want %x", i, x.base, x.exponent, x.modulus, got, err, x.want)
		}
	}
}

// Too long is what has too many bytes, whatever stands in them.
func TestP91TooLong(t *testing.T) {
	fit := [][]byte{nil, {3}, noughts(64), allBits(64)}
	for _, n := range []int{65, 66, 72, 96, 128, 255, 256, 65600, 1 << 20} {
		for _, b := range [][]byte{noughts(n), small(n, 1), allBits(n), some(n, n)} {
			for _, x := range fit {
				for _, l := range [][3][]byte{{b, x, x}, {x, b, x}, {x, x, b}, {b, b, x}, {b, x, b}, {x, b, b}, {b, b, b}} {
					if got, err := modexp.Pow(l[0], l[1], l[2]); len(got) != 0 || err != api.ErrLong {
						t.Errorf("Pow of %d, %d and %d bytes = %.99x, %v", len(l[0]), len(l[1]), len(l[2]), got, err)
					}
				}
			}
		}
	}
}

func TestP91ModuliOfNoughtAndOne(t *testing.T) {
	for n := range most + 1 {
		for _, base := range kinds(n, n) {
			for _, exponent := range [][]byte{nil, {0}, {1}, {2}, some(n, 3), allBits(64)} {
				for _, modulus := range [][]byte{noughts(n), small(n, 1)} {
					got, err := modexp.Pow(base, exponent, modulus)
					if !bytes.Equal(got, noughts(n)) || err != api.OK {
						t.Errorf("Pow(%x, %x, %x) = %x, %v", base, exponent, modulus, got, err)
					}
				}
			}
		}
	}
}

// A modulus of each number of bits, a power of 2 and what is next to it, with
// bases about it.
func TestP91ModuliOfAllBits(t *testing.T) {
	for n := range 8 * most {
		for _, m := range []*big.Int{two(n), minus(two(n), 1), plus(two(n), 1), plus(two(n), 2), minus(two(n+1), 2), number(some(n, n/8+1))} {
			for _, modulus := range [][]byte{m.Bytes(), m.FillBytes(noughts(most))} {
				for _, base := range []*big.Int{long(0), long(1), long(3), plus(m, 1), m, new(big.Int).Abs(minus(m, 1)), new(big.Int).Rsh(m, 1), number(allBits(most))} {
					b := base.Bytes()
					if len(b) > most {
						continue
					}
					checkPow(t, b, []byte{1}, modulus)
					checkPow(t, b, []byte{2}, modulus)
					checkPow(t, b, []byte{200, 7}, modulus)
				}
			}
		}
	}
}

// Bases that are whole moduli or next to them: nothing is left, or all.
func TestP91BasesAboutMultiples(t *testing.T) {
	for seed := range 40 {
		for n := 1; n <= 32; n++ {
			m := number(some(seed, n))
			for _, times := range []*big.Int{long(1), long(2), long(255), m, number(allBits(8)), number(some(seed, 32))} {
				multiple := new(big.Int).Mul(m, times)
				for _, base := range []*big.Int{multiple, plus(multiple, 1), new(big.Int).Abs(minus(multiple, 1))} {
					checkPow(t, base.Bytes(), []byte{1}, m.Bytes())
					checkPow(t, base.Bytes(), []byte{3}, m.Bytes())
				}
			}
		}
	}
}

func TestP91ExponentsWithOneBit(t *testing.T) {
	for n := range 8 * most {
		for i, modulus := range [][]byte{{7}, {251, 0}, some(n, 8), some(n, 9), some(n, 31), some(n, 32), some(n, 33), some(n, 63), allBits(64), some(n, 64)} {
			base := some(n+1, sizes[(n+i)%len(sizes)])
			checkPow(t, base, two(n).Bytes(), modulus)
			checkPow(t, base, two(n).FillBytes(noughts(most)), modulus)
		}
	}
}

func TestP91ExponentsWithAllBits(t *testing.T) {
	for n := range 8*most + 1 {
		exponent := minus(two(n), 1).Bytes()
		for i, modulus := range [][]byte{{13}, some(n, 16), some(n, 33), allBits(64)} {
			checkPow(t, some(n+i, 40), exponent, modulus)
		}
	}
	for n := range 1 << 11 {
		checkPow(t, []byte{3}, long(n).Bytes(), []byte{1, 0, 1})
		checkPow(t, []byte{2}, long(n).Bytes(), number(allBits(most)).Bytes())
	}
}

func TestP91SmallNumbers(t *testing.T) {
	for base := range 20 {
		for exponent := range 20 {
			for modulus := range 40 {
				checkPow(t, []byte{byte(base)}, []byte{byte(exponent)}, []byte{byte(modulus)})
			}
		}
	}
	for modulus := range 256 {
		for base := range 256 {
			checkPow(t, []byte{byte(base)}, []byte{2}, []byte{byte(modulus)})
		}
	}
}

func TestP91NoughtsAhead(t *testing.T) {
	for n := range most + 1 {
		for seed := range 20 {
			base, exponent, modulus := some(seed, n), some(seed+1, n), some(seed+2, n)
			want, _ := modexp.Pow(base, exponent, modulus)
			for _, more := range []int{1, 7, 8, 9, most - n} {
				if n+more > most {
					continue
				}
				ahead := func(b []byte) []byte { return slices.Concat(noughts(more), b) }
				if got, err := modexp.Pow(ahead(base), ahead(exponent), modulus); !bytes.Equal(got, want) || err != api.OK {
					t.Errorf("%d noughts ahead of %x and %x: %x, %v, want %x", more, base, exponent, got, err, want)
				}
				if got, err := modexp.Pow(base, exponent, ahead(modulus)); !bytes.Equal(got, ahead(want)) || err != api.OK {
					t.Errorf("%d noughts ahead of the modulus %x: %x, %v, want %x", more, modulus, got, err, ahead(want))
				}
			}
		}
	}
}

// mix makes numbers out of parts of 64 bits at which guesses of quotients and
// carries go wrong often.
type mix struct{ *rand.PCG }

func (m mix) part() uint64 {
	l := []uint64{0, 0, 1, 2, 1<<63 - 1, 1 << 63, 1<<63 + 1, ones - 1, ones, ones}
	if i := m.Uint64() % uint64(len(l)+4); i < uint64(len(l)) {
		return l[i]
	}
	return m.Uint64()
}

func (m mix) number() []byte {
	a := new(big.Int)
	for range m.Uint64() % 9 {
		a.Lsh(a, 64).Add(a, new(big.Int).SetUint64(m.part()))
	}
	return a.Rsh(a, uint(m.Uint64()%8*(m.Uint64()%32))).Bytes()
}

func TestP91EdgesOfParts(t *testing.T) {
	m := mix{rand.NewPCG(9, 1)}
	for range 100000 {
		base, modulus := m.number(), m.number()
		checkPow(t, base, []byte{1}, modulus)
		checkPow(t, base, []byte{byte(m.Uint64())}, modulus)
	}
	for range 2000 {
		checkPow(t, m.number(), m.number(), m.number())
	}
}

// Guesses of a quotient's part, by the highest parts alone, are too great by one
// and by two here, and as great as a part can be.
func TestP91GuessesOfQuotients(t *testing.T) {
	for i, x := range []struct{ base, modulus []uint64 }{
		{[]uint64{0, 1 << 63, 0, 0}, []uint64{1 << 63, ones}},
		{[]uint64{1 << 62, 0, 0}, []uint64{1 << 63, ones}},
		{[]uint64{1<<63 - 1, ones, 0}, []uint64{1 << 63, ones}},
		{[]uint64{1<<63 - 1, ones, ones, 0}, []uint64{1 << 63, 0, ones}},
		{[]uint64{1 << 63, 0, 0, 0}, []uint64{1 << 63, 1}},
		{[]uint64{1 << 63, ones - 1, ones, 5}, []uint64{1 << 63, ones}},
		{[]uint64{ones, ones - 1, ones, ones}, []uint64{ones, ones}},
		{[]uint64{ones, 0, ones, ones, 0, 7, 9, 0}, []uint64{ones, 0, ones, ones, 1}},
		{[]uint64{ones, ones, ones, ones, ones, ones, ones, ones}, []uint64{1, 0, 0, 0, 0, 0, 0, 1}},
		{[]uint64{ones, ones, ones, ones, ones, ones, ones, ones}, []uint64{1 << 63, 0, 0, 0, 0, 0, 0, 1}},
	} {
		base, modulus := new(big.Int), new(big.Int)
		for _, p := range x.base {
			base.Lsh(base, 64).Add(base, new(big.Int).SetUint64(p))
		}
		for _, p := range x.modulus {
			modulus.Lsh(modulus, 64).Add(modulus, new(big.Int).SetUint64(p))
		}
		t.Run(strconv.Itoa(i), func(t *testing.T) {
			for shift := range uint(64) {
				m := new(big.Int).Rsh(modulus, shift)
				checkPow(t, base.Bytes(), []byte{1}, m.Bytes())
				checkPow(t, base.Bytes(), []byte{2}, m.Bytes())
				checkPow(t, minus(m, 1).Bytes(), []byte{77}, m.Bytes())
			}
		})
	}
}

// Powers that are known without the model.
func TestP91KnownPowers(t *testing.T) {
	prime := minus(minus(two(256), 1<<32), 977) // of the curve secp256k1
	other := minus(two(255), 19)                // of the curve 25519
	mersenne := minus(two(127), 1)
	huge := minus(two(512), 569)
	for _, p := range []*big.Int{long(2), long(3), long(5), long(251), long(65537), mersenne, other, prime, huge} {
		one := long(1).FillBytes(noughts(len(p.Bytes())))
		for i := range 20 {
			base := new(big.Int).Mod(number(some(i, most)), minus(p, 1))
			base = plus(base, 1) // from 1 on, below the prime
			if got, err := modexp.Pow(base.Bytes(), minus(p, 1).Bytes(), p.Bytes()); !bytes.Equal(got, one) || err != api.OK {
				t.Errorf("%x to the power of the prime %x less 1 = %x, %v", base, p, got, err)
			}
			want := base.FillBytes(noughts(len(one)))
			if got, err := modexp.Pow(base.Bytes(), p.Bytes(), p.Bytes()); !bytes.Equal(got, want) || err != api.OK {
				t.Errorf("%x to the power of the prime %x = %x, %v", base, p, got, err)
			}
		}
	}
}

// checkSum holds P9.2 of two exponents, whose sum has 64 bytes at most.
func checkSum(t *testing.T, base, x, y, modulus []byte) {
	t.Helper()
	sum := new(big.Int).Add(number(x), number(y)).Bytes()
	first, _ := modexp.Pow(base, x, modulus)
	second, _ := modexp.Pow(base, y, modulus)
	got, err := modexp.Pow(base, sum, modulus)
	product := new(big.Int).Mul(number(first), number(second))
	if m := number(modulus); m.Sign() != 0 {
		product.Mod(product, m)
	}
	want := product.FillBytes(noughts(len(modulus)))
	if !bytes.Equal(got, want) || err != api.OK {
		t.Errorf("Pow(%x, %x + %x, %x) = %x, %v, want %x", base, x, y, modulus, got, err, want)
	}
}

func TestP92SumsOfExponents(t *testing.T) {
	for i, n := range sizes {
		for j, k := range sizes {
			for seed, modulus := range kinds(i, n) {
				base := some(seed, most-n)
				bigger := with(seed, k, min(k, 1)) // so that the sum has no more than 64 bytes
				for _, other := range [][]byte{nil, {1}, bigger, with(seed+1, min(k, 33), min(k, 1)), allBits(k / 2)} {
					checkSum(t, base, bigger, other, modulus)
				}
				checkSum(t, kinds(j, most)[seed], allBits(63), allBits(63), modulus)
			}
		}
	}
}

func TestP92PowersOneByOne(t *testing.T) {
	for i, modulus := range [][]byte{{1}, {2}, {97}, {128}, some(1, 8), some(2, 32), allBits(33), highest(40), some(3, most)} {
		base := some(i, 8*i)
		power := new(big.Int).Mod(long(1), number(modulus))
		for n := range 600 {
			want := power.FillBytes(noughts(len(modulus)))
			if got, err := modexp.Pow(base, long(n).Bytes(), modulus); !bytes.Equal(got, want) || err != api.OK {
				t.Errorf("Pow(%x, %d, %x) = %x, %v, want %x", base, n, modulus, got, err, want)
			}
			power.Mul(power, number(base)).Mod(power, number(modulus))
		}
	}
}

// With a few of the first bytes the lengths are great, as noughts stand behind.
func TestP91GasOfFewBytes(t *testing.T) {
	checkPrice(t, nil, 200)
	checkPrice(t, []byte{}, 200)
	for n := range head + 1 {
		checkRun(t, noughts(n))
		checkRun(t, small(n, 1))
		checkRun(t, highest(n))
		checkRun(t, allBits(n))
		checkRun(t, some(n, n))
		for _, l := range [][3]int{{64, 64, 64}, {1, 1, 1}, {0, 64, 0}, {0, 0, 64}, {64, 0, 0}, {256, 1, 256}, {65536, 33, 65537}} {
			checkRun(t, input(long(l[0]), long(l[1]), long(l[2]))[:n])
		}
	}
	checkPrice(t, input(long(64), long(64), long(64))[:32], 200)
	checkPrice(t, input(long(64), long(64), long(64))[:64], 64*256/3)
	checkPrice(t, input(long(1024), long(64), long(64))[:32], 128*128/3)
	checkPrice(t, input(long(1024), long(64), long(64))[:33], 128*128/3)
	checkPrice(t, small(1, 1), ones)         // 2^248 bytes
	checkPrice(t, small(24, 1), ones)        // 2^64
	checkPrice(t, small(25, 1), ones)        // 2^56
	checkPrice(t, small(28, 1), (1<<58-1)/3) // 2^32
	checkPrice(t, small(32, 1), 200)
}

// Of numbers with missing bytes the exponent's ones count as noughts.
func TestP91MissingBytes(t *testing.T) {
	for _, l := range [][3]int{{1, 1, 1}, {0, 40, 9}, {9, 0, 9}, {9, 40, 0}, {8, 9, 10}, {33, 32, 31}, {32, 33, 64}, {64, 64, 64}, {65, 64, 64}, {130, 70, 140}} {
		for seed := range 3 {
			b := input(long(l[0]), long(l[1]), long(l[2]), some(seed, l[0]+l[1]+l[2]))
			for n := range len(b) + 1 {
				checkRun(t, b[:n])
			}
			checkRun(t, append(b, some(seed, 300)...))
		}
	}
	b := input(long(1), long(2), long(1), []byte{3, 1})
	if got, err := modexp.Run(b); string(got) != "\x00" || err != api.OK {
		t.Errorf("Run without a modulus' byte = %x, %v", got, err)
	}
	// The exponent is 1 and a nought behind it: 256.
	checkPrice(t, input(long(1024), long(2), long(1), noughts(1024), []byte{1}), 128*128*8/3)
	checkPrice(t, input(long(1024), long(33), long(1), noughts(1024), []byte{1}), 128*128*(8+248)/3)
	checkPrice(t, input(long(1024), long(33), long(1), noughts(1024)), 128*128*8/3)
	checkPrice(t, input(long(1024), long(32), long(1), noughts(1023)), 128*128/3)
}

func TestP91GasOfLengthsOfNumbers(t *testing.T) {
	lengths := []int{0, 1, 2, 5000, 5001, 1<<20 - 1, 1 << 20, 1<<20 + 1}
	for n := 8; n <= 160; n += 8 {
		lengths = append(lengths, n-1, n, n+1)
	}
	for _, base := range lengths {
		for _, modulus := range lengths {
			for _, exponent := range []int{0, 1, 31, 32, 33, 34, 64, 65, 1000} {
				checkGas(t, input(long(base), long(exponent), long(modulus), some(base+modulus, 200)))
			}
		}
	}
	for _, x := range []struct {
		base, modulus int
		want          uint64
	}{
		{64, 0, 64 * 255 / 3}, {64, 64, 64 * 255 / 3}, {0, 64, 64 * 255 / 3}, {64, 65, 81 * 255 / 3},
		{72, 64, 81 * 255 / 3}, {73, 64, 100 * 255 / 3}, {57, 56, 64 * 255 / 3}, {56, 3, 49 * 255 / 3},
		{1, 8, 200}, {9, 8, 4 * 255 / 3}, {12, 16, 4 * 255 / 3}, {17, 16, 9 * 255 / 3},
	} {
		checkPrice(t, input(long(x.base), long(32), long(x.modulus), noughts(x.base), allBits(32)), x.want)
	}
}

func TestP91GasOfLengthsOfExponents(t *testing.T) {
	for exponent := range 300 {
		b := input(long(64), long(exponent), long(64), noughts(64), allBits(exponent), some(1, 64))
		bits := 8*exponent - 1
		if exponent == 0 {
			bits = 1 // the least that counts
		}
		if exponent > 32 {
			bits = 8*(exponent-32) + 255
		}
		checkPrice(t, b, max(200, uint64(64*bits/3)))
		// Noughts ahead have bytes, too, but of at most 32 bytes they cost nothing.
		clear(b[head+64:])
		bits = max(1, 8*(exponent-32))
		checkPrice(t, b, max(200, uint64(64*bits/3)))
	}
}

// A highest bit at each place of the exponent's first 32 bytes, with what stands
// below it, and behind these bytes, without a say.
func TestP91GasOfHighestBits(t *testing.T) {
	for _, exponent := range []int{1, 2, 7, 8, 9, 31, 32, 33, 34, 64, 65, 200} {
		first := min(exponent, 32)
		for bit := range 8 * first {
			alone := two(bit).FillBytes(noughts(first))
			full := minus(two(bit+1), 1).FillBytes(noughts(first))
			want := max(200, uint64(81*max(1, bit+8*(exponent-first))/3))
			for _, e := range [][]byte{alone, full} {
				for _, rest := range [][]byte{noughts(exponent - first), allBits(exponent - first)} {
					checkPrice(t, input(long(71), long(exponent), long(66), allBits(71), e, rest, allBits(66)), want)
					checkPrice(t, input(long(0), long(exponent), long(66), e, rest, allBits(66)), want)
				}
			}
		}
	}
}

// The gas that others name for such numbers (EIP-2565's examples).
func TestP91KnownGas(t *testing.T) {
	for _, x := range []struct {
		size     int
		exponent []byte
		want     uint64
	}{
		{64, []byte{2}, 200}, {64, []byte{3}, 200}, {64, []byte{1, 0, 1}, 341},
		{128, []byte{2}, 200}, {128, []byte{3}, 200}, {128, []byte{1, 0, 1}, 1365},
		{256, []byte{2}, 341}, {256, []byte{3}, 341}, {256, []byte{1, 0, 1}, 5461},
		{512, []byte{2}, 1365}, {512, []byte{3}, 1365}, {512, []byte{1, 0, 1}, 21845},
		{1024, []byte{2}, 5461}, {1024, []byte{3}, 5461}, {1024, []byte{1, 0, 1}, 87381},
	} {
		checkPrice(t, input(long(x.size), long(len(x.exponent)), long(x.size), some(1, x.size), x.exponent, some(2, x.size)), x.want)
	}
	p := minus(minus(two(256), 1<<32), 977)
	b := whole([]byte{3}, minus(p, 1).Bytes(), p.Bytes())
	checkPrice(t, b, 1360)
	if got, err := modexp.Run(b); !bytes.Equal(got, small(32, 1)) || err != api.OK {
		t.Errorf("Run(%x) = %x, %v", b, got, err)
	}
}

// huge are lengths of 2^64 and more.
func huge() []*big.Int {
	l := []*big.Int{two(64), plus(two(64), 1), plus(two(64), 64), plus(two(64), 65), minus(two(65), 1), minus(two(256), 1)}
	for n := 65; n < 256; n++ {
		l = append(l, two(n), plus(two(n), 5))
	}
	return l
}

func TestP91HugeLengths(t *testing.T) {
	fit := []*big.Int{long(0), long(1), long(64), long(65), minus(two(64), 1)}
	for _, n := range huge() {
		for _, x := range fit {
			for _, y := range fit {
				for _, b := range [][]byte{input(n, x, y, some(1, 200)), input(x, y, n, some(2, 200)), input(n, x, n), input(n, n, y), input(x, n, n), input(n, n, n)} {
					checkPrice(t, b, ones)
					checkRun(t, b)
					if got, err := modexp.Run(b); len(got) != 0 || err != api.ErrLong {
						t.Errorf("Run(%x) = %x, %v", b, got, err)
					}
				}
				b := input(x, n, y, some(3, 200))
				checkRun(t, b)
				if x.Sign() != 0 || y.Sign() != 0 {
					checkPrice(t, b, ones)
				}
			}
		}
	}
}

func TestP91GasAboutTheGreatest(t *testing.T) {
	none, last := long(0), minus(two(64), 1)
	for _, x := range []struct {
		base, exponent, modulus *big.Int
		first                   []byte // of the exponent
		want                    uint64
	}{
		// 8 * 7439101573 is the greatest length whose eighth, squared, isn't beyond.
		{long(8 * 7439101573), none, none, nil, 18446744071137024776},
		{none, none, long(8 * 7439101573), nil, 18446744071137024776},
		{long(8*7439101573 + 1), none, none, nil, ones},
		{long(8 * 7439101574), none, none, nil, ones},
		{none, none, long(8*7439101573 + 1), nil, ones},
		// Squares and products that go round in 64 bits.
		{two(35), none, none, nil, 6148914691236517205},
		{two(36), none, none, nil, ones},
		{none, long(32), two(35), small(32, 4), 12297829382473034410},
		{none, long(1), two(35), []byte{8}, ones},
		{two(63), none, two(63), nil, ones},
		{last, none, none, nil, ones},
		{none, none, last, nil, ones},
		{minus(last, 6), long(64), minus(last, 7), nil, ones},
		{last, last, last, nil, ones},
		// The exponent alone, of a base of one byte: 3 * 2^64 bits less 8, and more.
		{none, plus(two(61), 31), long(1), nil, 6148914691236517202},
		{none, plus(two(61), 32), long(8), nil, 6148914691236517205},
		{none, plus(two(62), 32), long(1), nil, 12297829382473034410},
		{none, plus(new(big.Int).Mul(two(61), long(3)), 31), long(1), nil, ones - 2},
		{none, plus(new(big.Int).Mul(two(61), long(3)), 31), long(1), small(32, 31), ones - 1},
		{none, plus(new(big.Int).Mul(two(61), long(3)), 31), long(1), small(32, 32), ones},
		{none, plus(new(big.Int).Mul(two(61), long(3)), 31), long(1), small(32, 128), ones},
		{none, plus(new(big.Int).Mul(two(61), long(3)), 31), long(1), allBits(32), ones},
		{none, plus(new(big.Int).Mul(two(61), long(3)), 32), long(1), nil, ones},
		{none, last, long(1), nil, ones},
	} {
		checkPrice(t, input(x.base, x.exponent, x.modulus, x.first), x.want)
	}
	for n := range 65 {
		for _, x := range []*big.Int{minus(two(n), 1), two(n), plus(two(n), 1)} {
			for _, y := range []*big.Int{none, long(1), long(33), x, last} {
				for _, z := range []*big.Int{none, long(1), long(64), x} {
					checkGas(t, input(x, y, z, some(n, 300)))
					checkGas(t, input(z, y, x, some(n, 300)))
					checkGas(t, input(y, x, z, some(n, 300)))
				}
			}
		}
	}
}

// With a long base ahead the exponent stands behind the input's end, and is 0.
func TestP91ExponentsBehindTheEnd(t *testing.T) {
	for n := range 33 {
		for _, base := range []*big.Int{two(n), plus(two(n), 1), plus(two(n), 40)} {
			for _, exponent := range []int{1, 32, 33, 64} {
				checkGas(t, input(base, long(exponent), long(1), allBits(400)))
			}
		}
	}
	checkPrice(t, input(two(32), long(32), long(1), allBits(400)), (1<<58-1)/3)
	checkPrice(t, input(long(800), long(32), long(1), allBits(400)), 10000/3)
	checkPrice(t, input(long(400), long(32), long(1), allBits(400)), 2500/3)
	checkPrice(t, input(long(392), long(32), long(1), allBits(400)), 2401*255/3)
}

func TestP91NoBaseAndNoModulus(t *testing.T) {
	lengths := huge()
	for n := range 65 {
		lengths = append(lengths, minus(two(n), 1), two(n), plus(two(n), 1))
	}
	for _, n := range lengths {
		for _, rest := range [][]byte{nil, noughts(40), allBits(40), some(1, 200)} {
			b := input(long(0), n, long(0), rest)
			checkPrice(t, b, 200)
			if got, err := modexp.Run(b); len(got) != 0 || err != api.OK {
				t.Errorf("Run(%x) = %x, %v", b, got, err)
			}
		}
	}
	for n := range 33 { // noughts behind: no length at all, or one of an exponent
		if got, err := modexp.Run(noughts(n)); len(got) != 0 || err != api.OK {
			t.Errorf("Run of %d noughts = %x, %v", n, got, err)
		}
		if got, err := modexp.Run(append(noughts(32), allBits(n)...)); len(got) != 0 || err != api.OK {
			t.Errorf("Run of 32 noughts and %d other bytes = %x, %v", n, got, err)
		}
	}
}

func TestP91RunOfAllSizes(t *testing.T) {
	lengths := append([]int{65, 66, 128, 1000}, sizes...)
	for _, x := range lengths {
		for _, y := range lengths {
			for _, z := range lengths {
				b := whole(some(x, x), some(y+1, y), some(z+2, z))
				checkRun(t, b)
				checkRun(t, append(b, 1, 2, 3))
				checkRun(t, b[:max(head, len(b)-5)])
			}
		}
	}
}

func TestP91RunWithLimits(t *testing.T) {
	for i, x := range []struct {
		base, exponent, modulus int
		err                     api.Errno
	}{
		{64, 64, 64, api.OK}, {65, 64, 64, api.ErrLong}, {64, 65, 64, api.ErrLong}, {64, 64, 65, api.ErrLong},
		{0, 65, 0, api.OK}, {1, 65, 0, api.ErrLong}, {0, 65, 1, api.ErrLong}, {65, 0, 0, api.ErrLong}, {0, 0, 65, api.ErrLong},
		{64, 0, 0, api.OK}, {0, 0, 64, api.OK}, {0, 64, 64, api.OK}, {256, 0, 1, api.ErrLong}, {1, 256, 1, api.ErrLong}, {1, 1, 256, api.ErrLong},
		{257, 1, 1, api.ErrLong}, {1, 65536, 1, api.ErrLong}, {1, 1, 1 << 32, api.ErrLong}, {1<<32 + 1, 1, 1, api.ErrLong},
	} {
		b := input(long(x.base), long(x.exponent), long(x.modulus), some(i, 300))
		checkRun(t, b)
		if _, err := modexp.Run(b); err != x.err {
			t.Errorf("Run of lengths %d, %d, %d: %v, want %v", x.base, x.exponent, x.modulus, err, x.err)
		}
	}
}

// What Run answers is what Pow answers of the three numbers, and bytes behind
// the modulus have no say.
func TestP91RunIsPow(t *testing.T) {
	for seed := range 300 {
		base, exponent, modulus := some(seed, seed%65), some(seed+1, seed/2%65), some(seed+2, 1+seed/3%64)
		want, _ := modelPow(base, exponent, modulus)
		b := whole(base, exponent, modulus)
		for _, more := range [][]byte{nil, {0}, {255}, some(seed, 31), noughts(32), allBits(500)} {
			if got, err := modexp.Run(slices.Concat(b, more)); !bytes.Equal(got, want) || err != api.OK {
				t.Errorf("Run(%x and %x) = %x, %v, want %x", b, more, got, err, want)
			}
			if got, want := modexp.Gas(slices.Concat(b, more)), modelGas(b); got != want {
				t.Errorf("Gas(%x and %x) = %d, want %d", b, more, got, want)
			}
		}
	}
}

func TestLongInputs(t *testing.T) {
	b := append(whole([]byte{3}, []byte{5}, []byte{7}), noughts(1<<24)...)
	if got, err := modexp.Run(b); string(got) != "\x05" || err != api.OK {
		t.Errorf("Run = %x, %v", got, err)
	}
	checkPrice(t, b, 200)
	n := 1 << 20
	checkPrice(t, input(long(n), long(n), long(n), allBits(3*n)), 1<<34*(8*(1<<20-32)+255)/3)
}

// around is b with room ahead and behind, and the whole that it is a piece of.
func around(seed int, b []byte) (piece, all []byte) {
	all = slices.Concat(some(seed, 80), b, some(seed+1, 80))
	return all[80 : 80+len(b)], all
}

func TestWhatIsHandedInStays(t *testing.T) {
	for seed := range 200 {
		n := seed % 65
		base, all1 := around(seed, some(seed, n))
		exponent, all2 := around(seed, with(seed, n, n/2))
		modulus, all3 := around(seed, some(seed+2, n))
		in, all4 := around(seed, whole(base, exponent, modulus))
		before := slices.Concat(all1, all2, all3, all4)
		power, _ := modexp.Pow(base, exponent, modulus)
		ran, _ := modexp.Run(in)
		modexp.Gas(in)
		short, _ := modexp.Run(in[:len(in)/2])
		// Nor does it change by what becomes of an answer, its spare room too.
		for _, got := range [][]byte{power, ran, short} {
			room := got[:cap(got)]
			for i := range room {
				room[i] ^= 255
			}
		}
		if !bytes.Equal(slices.Concat(all1, all2, all3, all4), before) {
			t.Fatalf("%d: what was handed in is changed", seed)
		}
	}
}

func TestAnswersAreNobodyElses(t *testing.T) {
	for seed := range 200 {
		base, exponent, modulus := some(seed, 64), some(seed+1, seed%65), some(seed+2, 1+seed%64)
		if seed%4 == 0 {
			modulus = noughts(len(modulus))
		}
		in := whole(base, exponent, modulus)
		want, _ := modelPow(base, exponent, modulus)
		first, _ := modexp.Pow(base, exponent, modulus)
		second, _ := modexp.Pow(base, exponent, modulus)
		third, _ := modexp.Run(in)
		for _, b := range [][]byte{base, exponent, modulus, in, second[:cap(second)]} {
			for i := range b {
				b[i] ^= 255
			}
		}
		if !bytes.Equal(first, want) || !bytes.Equal(third, want) {
			t.Errorf("%d: an answer has changed: %x and %x, want %x", seed, first, third, want)
		}
	}
}

func TestExamples(t *testing.T) {
	if got, err := modexp.Pow([]byte{3}, []byte{5}, []byte{7}); string(got) != "\x05" || err != api.OK {
		t.Errorf("Pow(3, 5, 7) = %x, %v", got, err)
	}
	if got, err := modexp.Pow([]byte{2}, noughts(64), []byte{5}); string(got) != "\x01" || err != api.OK {
		t.Errorf("Pow(2, 64 bytes of noughts, 5) = %x, %v", got, err)
	}
	if got := modexp.Gas(nil); got != 200 {
		t.Errorf("Gas() = %d", got)
	}
}
