package wide_test

import (
	"math/big"
	"testing"

	"smithy/api"
	"smithy/wide"
	"smithy/word"
)

const ones = 1<<64 - 1

var (
	zero = api.Word{}
	one  = api.Word{1}
	two  = api.Word{2}
	top  = api.Word{ones, ones, ones, ones}
	half = api.Word{0, 0, 0, 1 << 63}
	size = new(big.Int).Lsh(big.NewInt(1), 256)
)

func number(a api.Word) *big.Int {
	b := word.Bytes(a)
	return new(big.Int).SetBytes(b[:])
}

// round is the word of a number of any length, going round at 2^256.
func round(n *big.Int) api.Word { return word.From(n.Bytes()) }

// quotient is what Div must answer, 0 and 0 for a divisor of 0.
func quotient(a, b *big.Int) (api.Word, api.Word) {
	if b.Sign() == 0 {
		return zero, zero
	}
	q, r := new(big.Int).QuoRem(a, b, new(big.Int))
	return round(q), round(r)
}

// mix is a row of numbers that look random and are the same in each run.
type mix uint64

func (m *mix) next() uint64 {
	*m += 0x9e3779b97f4a7c15
	z := uint64(*m)
	z = (z ^ z>>30) * 0xbf58476d1ce4e5b9
	z = (z ^ z>>27) * 0x94d049bb133111eb
	return z ^ z>>31
}

// part is a number at which guesses of quotients and carries go wrong often.
func (m *mix) part() uint64 {
	l := []uint64{0, 0, 1, 2, 1<<63 - 1, 1 << 63, 1<<63 + 1, ones - 1, ones, ones}
	if i := m.next() % uint64(len(l)+4); i < uint64(len(l)) {
		return l[i]
	}
	return m.next()
}

func (m *mix) word() api.Word {
	a := api.Word{m.part(), m.part(), m.part(), m.part()}
	return word.Shr(a, uint(m.next()%8)*uint(m.next()%32))
}

// samples are words of one part and of several, edges first.
func samples(more int) []api.Word {
	l := []api.Word{
		zero, one, two, {3}, {10}, {255}, {256}, {ones - 1}, {ones}, {1 << 63}, {1<<63 + 1},
		{0, 1}, {1, 1}, {ones, ones}, {0, 1 << 63}, {ones, 1 << 63}, {0, ones - 1},
		{0, 0, 1}, {1, 0, 1}, {ones, ones, ones}, {0, 0, 1 << 63}, {ones, 0, 1 << 63},
		{0, 0, 0, 1}, {1, 0, 0, 1}, {1, 0, 0, 1 << 62}, {ones, ones, ones, 1 << 62}, {1, 2, 3, 4},
		half, {1, 0, 0, 1 << 63}, {ones, ones, ones, 1<<63 - 1}, {ones, ones, ones, 1 << 63},
		{0, 0, ones, 1 << 63}, {0, ones, ones, ones}, {ones - 1, ones, ones, ones}, top,
	}
	m := mix(3)
	for range more {
		l = append(l, m.word())
	}
	return l
}

func checkDiv(t *testing.T, a, b api.Word) {
	t.Helper()
	q, r := wide.Div(a, b)
	if wantQ, wantR := quotient(number(a), number(b)); q != wantQ || r != wantR {
		t.Errorf("Div(%x, %x) = %x, %x, want %x, %x", a, b, q, r, wantQ, wantR)
	}
}

func checkMod(t *testing.T, a, b, m api.Word) {
	t.Helper()
	x, y, z := number(a), number(b), number(m)
	if _, want := quotient(new(big.Int).Add(x, y), z); wide.AddMod(a, b, m) != want {
		t.Errorf("AddMod(%x, %x, %x) = %x, want %x", a, b, m, wide.AddMod(a, b, m), want)
	}
	if _, want := quotient(new(big.Int).Mul(x, y), z); wide.MulMod(a, b, m) != want {
		t.Errorf("MulMod(%x, %x, %x) = %x, want %x", a, b, m, wide.MulMod(a, b, m), want)
	}
}

func checkExp(t *testing.T, a, n api.Word) {
	t.Helper()
	want := round(new(big.Int).Exp(number(a), number(n), size))
	if got := wide.Exp(a, n); got != want {
		t.Errorf("Exp(%x, %x) = %x, want %x", a, n, got, want)
	}
}

func TestP21Div(t *testing.T) {
	for _, a := range samples(150) {
		for _, b := range samples(150) {
			checkDiv(t, a, b)
		}
	}
	m := mix(4)
	for range 50000 {
		checkDiv(t, m.word(), m.word())
	}
}

func TestP21DivEdges(t *testing.T) {
	for i, x := range []struct{ a, b, q, r api.Word }{
		{zero, zero, zero, zero},
		{one, zero, zero, zero},
		{top, zero, zero, zero},
		{zero, one, zero, zero},
		{zero, top, zero, zero},
		{top, one, top, zero},
		{top, two, api.Word{ones, ones, ones, 1<<63 - 1}, one},
		{top, top, one, zero},
		{half, half, one, zero},
		{word.Sub(top, one), top, zero, word.Sub(top, one)},
		{api.Word{ones}, api.Word{0, 1}, zero, api.Word{ones}},
		{api.Word{ones, ones, ones}, api.Word{0, 0, 0, 1}, zero, api.Word{ones, ones, ones}},
		{api.Word{1, 2, 3, 4}, api.Word{0, 1}, api.Word{2, 3, 4}, one},
		{api.Word{1, 2, 3, 4}, api.Word{0, 0, 1}, api.Word{3, 4}, api.Word{1, 2}},
		{api.Word{1, 2, 3, 4}, api.Word{0, 0, 0, 1}, api.Word{4}, api.Word{1, 2, 3}},
		{top, api.Word{ones}, api.Word{1, 1, 1, 1}, zero},
		{top, api.Word{ones, ones}, api.Word{1, 0, 1}, zero},
		{half, api.Word{ones, 1 << 63}, api.Word{5, ones - 1}, api.Word{5, 1<<63 - 7}},
		{half, api.Word{ones, ones, ones, 1<<63 - 1}, one, one},
		{half, api.Word{1, 0, 0, 1 << 63}, zero, half},
	} {
		if q, r := wide.Div(x.a, x.b); q != x.q || r != x.r {
			t.Errorf("%d: Div(%x, %x) = %x, %x, want %x, %x", i, x.a, x.b, q, r, x.q, x.r)
		}
	}
}

// Quotients next to a whole one: what is divided is a multiple, one more, one less.
func TestP21DivNearMultiples(t *testing.T) {
	for _, q := range samples(60) {
		for _, b := range samples(60) {
			low, high := wide.Product(q, b)
			if high != zero {
				continue
			}
			checkDiv(t, low, b)
			checkDiv(t, word.Add(low, one), b)
			checkDiv(t, word.Sub(low, one), b)
		}
	}
}

func TestP21Rests(t *testing.T) {
	l := samples(20)
	for _, a := range l {
		for _, b := range l {
			for _, m := range l {
				checkMod(t, a, b, m)
			}
		}
	}
	m := mix(5)
	for range 50000 {
		checkMod(t, m.word(), m.word(), m.word())
	}
}

func TestP21WholeSums(t *testing.T) {
	for i, x := range []struct{ a, b, m, want api.Word }{
		{zero, zero, zero, zero},
		{top, top, zero, zero},
		{top, one, zero, zero},
		{top, one, one, zero},
		{top, top, one, zero},
		{top, one, api.Word{3}, one},
		{top, one, top, one},
		{top, top, top, zero},
		{top, top, half, word.Sub(half, two)},
		{half, half, api.Word{7}, two},
		{half, half, top, one},
		{half, word.Sub(half, one), top, zero},
		{word.Sub(top, one), zero, top, word.Sub(top, one)},
		{word.Sub(top, one), word.Sub(top, one), top, word.Sub(top, two)},
	} {
		if got := wide.AddMod(x.a, x.b, x.m); got != x.want {
			t.Errorf("%d: AddMod(%x, %x, %x) = %x, want %x", i, x.a, x.b, x.m, got, x.want)
		}
	}
}

func TestP21WholeProductsLeft(t *testing.T) {
	for i, x := range []struct{ a, b, m, want api.Word }{
		{zero, zero, zero, zero},
		{top, top, zero, zero},
		{top, top, one, zero},
		{top, top, top, zero},
		{top, top, word.Sub(top, one), one},
		{top, top, half, one},
		{half, two, api.Word{3}, one},
		{half, half, api.Word{3}, one},
		{half, half, top, api.Word{0, 0, 0, 1 << 62}},
		{half, two, top, one},
		{word.Sub(top, one), word.Sub(top, one), top, one},
		{top, zero, top, zero},
		{api.Word{5}, api.Word{6}, api.Word{31}, api.Word{30}},
	} {
		if got := wide.MulMod(x.a, x.b, x.m); got != x.want {
			t.Errorf("%d: MulMod(%x, %x, %x) = %x, want %x", i, x.a, x.b, x.m, got, x.want)
		}
	}
}

func TestP21Product(t *testing.T) {
	l := samples(150)
	for _, a := range l {
		for _, b := range l {
			whole := new(big.Int).Mul(number(a), number(b))
			wantLow, wantHigh := round(whole), round(new(big.Int).Rsh(whole, 256))
			if low, high := wide.Product(a, b); low != wantLow || high != wantHigh {
				t.Errorf("Product(%x, %x) = %x, %x, want %x, %x", a, b, low, high, wantLow, wantHigh)
			}
		}
	}
}

func TestP21ProductEdges(t *testing.T) {
	for i, x := range []struct{ a, b, low, high api.Word }{
		{zero, top, zero, zero},
		{one, top, top, zero},
		{two, top, word.Sub(top, one), one},
		{half, two, zero, one},
		{half, half, zero, api.Word{0, 0, 0, 1 << 62}},
		{top, top, one, word.Sub(top, one)},
		{api.Word{0, 0, 1}, api.Word{0, 0, 1}, zero, one},
		{api.Word{ones}, api.Word{ones}, api.Word{1, ones - 1}, zero},
		{api.Word{ones, ones}, api.Word{ones, ones}, api.Word{1, 0, ones - 1, ones}, zero},
	} {
		if low, high := wide.Product(x.a, x.b); low != x.low || high != x.high {
			t.Errorf("%d: Product(%x, %x) = %x, %x, want %x, %x", i, x.a, x.b, low, high, x.low, x.high)
		}
		if low, high := wide.Product(x.b, x.a); low != x.low || high != x.high {
			t.Errorf("%d: Product(%x, %x) = %x, %x, want %x, %x", i, x.b, x.a, low, high, x.low, x.high)
		}
	}
}

func TestP21Exp(t *testing.T) {
	for _, a := range samples(10) {
		for n := range uint64(300) {
			checkExp(t, a, word.Of(n))
		}
		for _, n := range samples(10) {
			checkExp(t, a, n)
		}
	}
}

func TestP21ExpEdges(t *testing.T) {
	for i, x := range []struct{ a, n, want api.Word }{
		{zero, zero, one},
		{one, zero, one},
		{top, zero, one},
		{zero, one, zero},
		{zero, half, zero},
		{zero, top, zero},
		{top, one, top},
		{one, half, one},
		{one, top, one},
		{top, half, one},
		{top, top, top},
		{two, word.Of(255), half},
		{two, word.Of(256), zero},
		{two, half, zero},
		{two, top, zero},
		// There are 2^255 odd words, a group by their products.
		{api.Word{3}, half, one},
		{api.Word{3}, word.Add(half, one), api.Word{3}},
		{api.Word{3}, word.Add(half, two), api.Word{9}},
		{api.Word{10}, word.Of(18), api.Word{1_000_000_000_000_000_000}},
		{api.Word{0, 1}, word.Of(3), api.Word{0, 0, 0, 1}},
		{api.Word{0, 1}, word.Of(4), zero},
	} {
		if got := wide.Exp(x.a, x.n); got != x.want {
			t.Errorf("%d: Exp(%x, %x) = %x, want %x", i, x.a, x.n, got, x.want)
		}
	}
}

func TestP22PutTogetherAgain(t *testing.T) {
	for _, a := range samples(150) {
		for _, b := range samples(150) {
			q, r := wide.Div(a, b)
			if b == zero {
				if q != zero || r != zero {
					t.Errorf("Div(%x, 0) = %x, %x", a, q, r)
				}
				continue
			}
			if word.Compare(r, b) >= 0 {
				t.Errorf("Div(%x, %x): %x is left, not below the divisor", a, b, r)
			}
			low, high := wide.Product(q, b)
			if high != zero || word.Add(low, r) != a || word.Compare(low, a) > 0 {
				t.Errorf("Div(%x, %x) = %x, %x: put together again %x", a, b, q, r, word.Add(low, r))
			}
		}
	}
}

func TestP23Powers(t *testing.T) {
	l := samples(8)
	for _, a := range l {
		powers := make([]api.Word, len(l))
		for i, n := range l {
			powers[i] = wide.Exp(a, n)
		}
		for i, n := range l {
			for j, k := range l[:i+1] {
				sum := word.Add(n, k)
				if word.Compare(sum, n) < 0 {
					continue // the exponents' sum is no word
				}
				if wide.Exp(a, sum) != word.Mul(powers[i], powers[j]) {
					t.Errorf("%x to the power of %x + %x", a, n, k)
				}
			}
		}
	}
}

func TestP23PowersOneByOne(t *testing.T) {
	for _, a := range samples(20) {
		power := one
		for n := range uint64(600) {
			if got := wide.Exp(a, word.Of(n)); got != power {
				t.Errorf("Exp(%x, %d) = %x, want %x", a, n, got, power)
			}
			power = word.Mul(power, a)
		}
	}
}

func TestExamples(t *testing.T) {
	if q, r := wide.Div(word.Of(7), word.Of(2)); q != word.Of(3) || r != one {
		t.Errorf("Div(7, 2) = %x, %x", q, r)
	}
	if q, r := wide.Div(word.Of(7), word.Of(0)); q != zero || r != zero {
		t.Errorf("Div(7, 0) = %x, %x", q, r)
	}
	if got := wide.AddMod(top, two, two); got != one {
		t.Errorf("AddMod(2^256 - 1, 2, 2) = %x", got)
	}
	if got := wide.MulMod(half, two, word.Of(3)); got != one {
		t.Errorf("MulMod(2^255, 2, 3) = %x", got)
	}
	if got := wide.Exp(two, word.Of(255)); got != half {
		t.Errorf("Exp(2, 255) = %x", got)
	}
}
