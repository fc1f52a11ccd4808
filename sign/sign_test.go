package sign_test

import (
	"math/big"
	"testing"

	"smithy/api"
	"smithy/sign"
	"smithy/word"
)

const ones = 1<<64 - 1

var (
	zero  = api.Word{}
	one   = api.Word{1}
	two   = api.Word{2}
	least = api.Word{0, 0, 0, 1 << 63}
	most  = api.Word{ones, ones, ones, 1<<63 - 1}
	whole = new(big.Int).Lsh(big.NewInt(1), 256)
)

// minus is the word of -n, n being from 1 on.
func minus(n uint64) api.Word { return api.Word{-n, ones, ones, ones} }

// number is a word with its sign, by the chapter's words alone.
func number(a api.Word) *big.Int {
	b := word.Bytes(a)
	n := new(big.Int).SetBytes(b[:])
	if n.Bit(255) == 1 {
		n.Sub(n, whole)
	}
	return n
}

// round is the word of a number of any length and sign, going round at 2^256.
func round(n *big.Int) api.Word {
	return word.From(new(big.Int).Mod(n, whole).Bytes())
}

// mix is a row of numbers that look random and are the same in each run.
type mix uint64

func (m *mix) next() uint64 {
	*m += 0x9e3779b97f4a7c15
	z := uint64(*m)
	z = (z ^ z>>30) * 0xbf58476d1ce4e5b9
	z = (z ^ z>>27) * 0x94d049bb133111eb
	return z ^ z>>31
}

func (m *mix) part() uint64 {
	l := []uint64{0, 0, 1, 1<<63 - 1, 1 << 63, ones - 1, ones, ones}
	if i := m.next() % uint64(2*len(l)); i < uint64(len(l)) {
		return l[i]
	}
	return m.next()
}

// word is a word of any length, below 0 as often as not.
func (m *mix) word() api.Word {
	a := word.Shr(api.Word{m.part(), m.part(), m.part(), m.part()}, uint(m.next()%256))
	if m.next()%2 == 0 {
		return a
	}
	return word.Not(a)
}

// samples are words of both signs, edges first.
func samples(more int) []api.Word {
	l := []api.Word{zero, least, most, word.Add(least, one), word.Sub(most, one)}
	for _, n := range []uint64{1, 2, 3, 7, 8, 10, 127, 128, 129, 255, 256, 1<<63 - 1, 1 << 63, 1<<63 + 1, ones} {
		l = append(l, word.Of(n), minus(n))
	}
	for _, n := range []uint{64, 65, 127, 128, 129, 191, 192, 193, 253, 254} {
		a := word.Shl(one, n)
		l = append(l, a, word.Sub(a, one), word.Sub(zero, a), word.Not(a), word.Add(least, a))
	}
	m := mix(1)
	for range more {
		l = append(l, m.word())
	}
	return l
}

// shifts are all counts up to beyond a word's bits, and great ones.
func shifts() []uint {
	var l []uint
	for n := range uint(260) {
		l = append(l, n)
	}
	return append(l, 300, 319, 320, 511, 512, 1<<16, 1<<31, 1<<32, 1<<32+1, 1<<63, ^uint(0)-255, ^uint(0))
}

// quotient is what Div must answer; QuoRem cuts towards 0, and what is left
// of it has the sign of what was divided.
func quotient(a, b *big.Int) (api.Word, api.Word) {
	if b.Sign() == 0 {
		return zero, zero
	}
	q, r := new(big.Int).QuoRem(a, b, new(big.Int))
	return round(q), round(r)
}

func checkDiv(t *testing.T, a, b api.Word) {
	t.Helper()
	q, r := sign.Div(a, b)
	if wantQ, wantR := quotient(number(a), number(b)); q != wantQ || r != wantR {
		t.Errorf("Div(%x, %x) = %x, %x, want %x, %x", a, b, q, r, wantQ, wantR)
	}
}

func TestP31BelowAndNeg(t *testing.T) {
	for _, a := range samples(500) {
		n := number(a)
		if got, want := sign.Below(a), n.Sign() < 0; got != want {
			t.Errorf("Below(%x) = %t", a, got)
		}
		if got, want := sign.Neg(a), round(new(big.Int).Neg(n)); got != want {
			t.Errorf("Neg(%x) = %x, want %x", a, got, want)
		}
	}
}

func TestP31BelowAndNegEdges(t *testing.T) {
	for i, x := range []struct {
		a     api.Word
		below bool
		neg   api.Word
	}{
		{zero, false, zero},
		{one, false, minus(1)},
		{minus(1), true, one},
		{most, false, api.Word{1, 0, 0, 1 << 63}},
		{api.Word{1, 0, 0, 1 << 63}, true, most},
		{least, true, least},
		{api.Word{1 << 63, 1 << 63, 1 << 63}, false, api.Word{1 << 63, 1<<63 - 1, 1<<63 - 1, ones}},
	} {
		if below, neg := sign.Below(x.a), sign.Neg(x.a); below != x.below || neg != x.neg {
			t.Errorf("%d: %x: Below %t, Neg %x, want %t, %x", i, x.a, below, neg, x.below, x.neg)
		}
	}
}

func TestP31Div(t *testing.T) {
	l := samples(100)
	for _, a := range l {
		for _, b := range l {
			checkDiv(t, a, b)
		}
	}
	m := mix(2)
	for range 50000 {
		checkDiv(t, m.word(), m.word())
	}
}

func TestP31DivEdges(t *testing.T) {
	quarter := api.Word{0, 0, 0, 1 << 62}
	third := api.Word{0xaaaaaaaaaaaaaaaa, 0xaaaaaaaaaaaaaaaa, 0xaaaaaaaaaaaaaaaa, 0x2aaaaaaaaaaaaaaa}
	for i, x := range []struct{ a, b, q, r api.Word }{
		{word.Of(7), two, word.Of(3), one},
		{minus(7), two, minus(3), minus(1)},
		{word.Of(7), minus(2), minus(3), one},
		{minus(7), minus(2), word.Of(3), minus(1)},
		{word.Of(8), minus(2), minus(4), zero},
		{minus(8), two, minus(4), zero},
		{minus(1), two, zero, minus(1)},
		{one, minus(2), zero, one},
		{zero, minus(2), zero, zero},
		{zero, zero, zero, zero},
		{one, zero, zero, zero},
		{minus(1), zero, zero, zero},
		{most, zero, zero, zero},
		{least, zero, zero, zero},
		{least, minus(1), least, zero},
		{least, one, least, zero},
		{least, two, word.Sub(zero, quarter), zero},
		{least, minus(2), quarter, zero},
		{least, minus(3), third, minus(2)},
		{least, least, one, zero},
		{least, most, minus(1), minus(1)},
		{most, least, zero, most},
		{most, minus(1), word.Add(least, one), zero},
		{minus(1), least, zero, minus(1)},
		{word.Add(least, one), least, zero, word.Add(least, one)},
	} {
		if q, r := sign.Div(x.a, x.b); q != x.q || r != x.r {
			t.Errorf("%d: Div(%x, %x) = %x, %x, want %x, %x", i, x.a, x.b, q, r, x.q, x.r)
		}
	}
}

func TestP31Less(t *testing.T) {
	l := samples(150)
	for _, a := range l {
		for _, b := range l {
			if got, want := sign.Less(a, b), number(a).Cmp(number(b)) < 0; got != want {
				t.Errorf("Less(%x, %x) = %t", a, b, got)
			}
		}
	}
}

// Each of the row is below all behind it, and below none other.
func TestP31LessInARow(t *testing.T) {
	l := []api.Word{
		least, word.Add(least, one), {0, 1, 0, 1 << 63}, {0, 0, 0, ones}, minus(ones), minus(2), minus(1),
		zero, one, two, {ones}, {0, 1}, {ones, ones, ones}, {0, 0, 0, 1}, word.Sub(most, one), most,
	}
	for i, a := range l {
		for j, b := range l {
			if got := sign.Less(a, b); got != (i < j) {
				t.Errorf("Less(%x, %x) = %t", a, b, got)
			}
		}
	}
}

// extended is the number of the lowest n + 1 bytes, with their sign.
func extended(n uint, a api.Word) api.Word {
	b := word.Bytes(a)
	low := new(big.Int).SetBytes(b[31-n:])
	if b[31-n] >= 0x80 {
		low.Sub(low, new(big.Int).Lsh(big.NewInt(1), 8*(n+1)))
	}
	return round(low)
}

func TestP31Extend(t *testing.T) {
	for _, a := range samples(500) {
		for n := range uint(31) {
			if got, want := sign.Extend(word.Of(uint64(n)), a), extended(n, a); got != want {
				t.Errorf("Extend(%d, %x) = %x, want %x", n, a, got, want)
			}
		}
	}
}

func TestP31ExtendEdges(t *testing.T) {
	for i, x := range []struct {
		n       uint64
		a, want api.Word
	}{
		{0, zero, zero},
		{0, word.Of(0x7f), word.Of(0x7f)},
		{0, word.Of(0x80), minus(128)},
		{0, word.Of(0x17f), word.Of(0x7f)},
		{0, word.Of(0x7f80), minus(128)},
		{0, minus(256), zero},
		{0, least, zero},
		{1, word.Of(0x80), word.Of(0x80)},
		{1, word.Of(0x8000), minus(0x8000)},
		{1, word.Of(0x17fff), word.Of(0x7fff)},
		{7, api.Word{1 << 63, 5, 6, 7}, minus(1 << 63)},
		{7, api.Word{1<<63 - 1, ones, ones, ones}, word.Of(1<<63 - 1)},
		{8, api.Word{1, 0x80}, api.Word{1, ones - 0x7f, ones, ones}},
		{15, api.Word{1, 1 << 63, 0, 9}, api.Word{1, 1 << 63, ones, ones}},
		{23, api.Word{1, 2, 1 << 63, 0}, api.Word{1, 2, 1 << 63, ones}},
		{30, api.Word{1, 2, 3, 1 << 55}, api.Word{1, 2, 3, 0xff80 << 48}},
		{30, api.Word{1, 2, 3, 0xff7f << 48}, api.Word{1, 2, 3, 0x7f << 48}},
		{30, least, zero},
	} {
		if got := sign.Extend(word.Of(x.n), x.a); got != x.want {
			t.Errorf("%d: Extend(%d, %x) = %x, want %x", i, x.n, x.a, got, x.want)
		}
	}
}

func TestP31ExtendFarAbove(t *testing.T) {
	far := []api.Word{
		{31}, {32}, {33}, {255}, {256}, {256 + 30}, {1 << 32}, {1<<32 + 30}, {1 << 61}, {1 << 63}, {ones},
		{0, 1}, {30, 1}, {0, 0, 1}, {0, 0, 0, 1}, {0, 0, 0, 1 << 63}, {30, 0, 0, 1 << 63}, most, minus(2), minus(1),
	}
	for _, a := range samples(50) {
		for _, n := range far {
			if got := sign.Extend(n, a); got != a {
				t.Errorf("Extend(%x, %x) = %x", n, a, got)
			}
		}
	}
}

func TestP31SarEdges(t *testing.T) {
	for i, x := range []struct {
		a    api.Word
		n    uint
		want api.Word
	}{
		{word.Of(8), 0, word.Of(8)},
		{minus(8), 0, minus(8)},
		{least, 0, least},
		{most, 0, most},
		{word.Of(5), 1, two},
		{minus(5), 1, minus(3)},
		{minus(1), 1, minus(1)},
		{word.Of(1), 1, zero},
		{least, 1, api.Word{0, 0, 0, 3 << 62}},
		{least, 64, api.Word{0, 0, 1 << 63, ones}},
		{least, 192, api.Word{1 << 63, ones, ones, ones}},
		{least, 254, minus(2)},
		{most, 254, one},
		{least, 255, minus(1)},
		{most, 255, zero},
		{minus(1), 255, minus(1)},
		{zero, 255, zero},
		{least, 256, minus(1)},
		{most, 256, zero},
		{minus(1), 256, minus(1)},
		{least, 257, minus(1)},
		{most, 257, zero},
		{least, 1 << 32, minus(1)},
		{most, 1 << 32, zero},
		{least, ^uint(0), minus(1)},
		{most, ^uint(0), zero},
		{zero, ^uint(0), zero},
	} {
		if got := sign.Sar(x.a, x.n); got != x.want {
			t.Errorf("%d: Sar(%x, %d) = %x, want %x", i, x.a, x.n, got, x.want)
		}
	}
}

func TestP32PutTogetherAgain(t *testing.T) {
	l := samples(150)
	for _, a := range l {
		for _, b := range l {
			q, r := sign.Div(a, b)
			if b == zero {
				if q != zero || r != zero {
					t.Errorf("Div(%x, 0) = %x, %x", a, q, r)
				}
				continue
			}
			if got := word.Add(word.Mul(q, b), r); got != a {
				t.Errorf("Div(%x, %x) = %x, %x: put together again %x", a, b, q, r, got)
			}
			if number(r).CmpAbs(number(b)) >= 0 {
				t.Errorf("Div(%x, %x): %x is left, not nearer to 0 than the divisor", a, b, r)
			}
			if r != zero && sign.Below(r) != sign.Below(a) {
				t.Errorf("Div(%x, %x): %x is left, of the other sign", a, b, r)
			}
		}
	}
}

// big.Int's Div leaves nothing below 0, so by 2^n, that is above 0, it cuts
// down.
func TestP33AsNumbers(t *testing.T) {
	for _, a := range samples(100) {
		for _, n := range shifts() {
			want := zero
			if sign.Below(a) {
				want = minus(1)
			}
			if n < 1<<16 {
				want = round(new(big.Int).Div(number(a), new(big.Int).Lsh(big.NewInt(1), n)))
			}
			if got := sign.Sar(a, n); got != want {
				t.Errorf("Sar(%x, %d) = %x, want %x", a, n, got, want)
			}
		}
	}
}

// By Div, which cuts towards 0: where something below 0 is left, one less.
func TestP33AsQuotients(t *testing.T) {
	for _, a := range samples(150) {
		for n := range uint(255) {
			want, rest := sign.Div(a, word.Shl(one, n))
			if sign.Below(rest) {
				want = word.Sub(want, one)
			}
			if got := sign.Sar(a, n); got != want {
				t.Errorf("Sar(%x, %d) = %x, want %x", a, n, got, want)
			}
		}
	}
}

func TestExamples(t *testing.T) {
	if q, r := sign.Div(minus(7), two); q != minus(3) || r != minus(1) {
		t.Errorf("Div(-7, 2) = %x, %x", q, r)
	}
	if !sign.Less(minus(1), zero) {
		t.Error("Less(-1, 0) = false")
	}
	if got := sign.Extend(zero, word.Of(255)); got != minus(1) {
		t.Errorf("Extend(0, 255) = %x", got)
	}
	if got := sign.Sar(minus(8), 1); got != minus(4) {
		t.Errorf("Sar(-8, 1) = %x", got)
	}
	if got := sign.Sar(minus(1), 300); got != minus(1) {
		t.Errorf("Sar(-1, 300) = %x", got)
	}
}
