package word_test

import (
	"bytes"
	"math/big"
	"testing"

	"smithy/api"
	"smithy/word"
)

const ones = 1<<64 - 1

var (
	zero = api.Word{}
	one  = api.Word{1}
	top  = api.Word{ones, ones, ones, ones}
	half = api.Word{0, 0, 0, 1 << 63}
	size = new(big.Int).Lsh(big.NewInt(1), 256)
)

// number is the word as a number, worked out from its parts alone.
func number(a api.Word) *big.Int {
	n := new(big.Int)
	for i := 3; i >= 0; i-- {
		n.Lsh(n, 64)
		n.Or(n, new(big.Int).SetUint64(a[i]))
	}
	return n
}

// round is the word of a number, going round at 2^256 and below 0.
func round(n *big.Int) api.Word {
	rest := new(big.Int).Mod(n, size)
	var a api.Word
	for i := range a {
		a[i] = new(big.Int).And(rest, new(big.Int).SetUint64(ones)).Uint64()
		rest.Rsh(rest, 64)
	}
	return a
}

// mix is a row of numbers that look random and are the same in each run.
type mix uint64

func (m *mix) next() uint64 {
	*m += 0x9e3779b97f4a7c15
	z := uint64(*m)
	z = (z ^ z>>30) * 0xbf58476d1ce4e5b9
	z = (z ^ z>>27) * 0x94d049bb133111eb
	return z ^ z>>31
}

// edges are words at which carries, borrows and highest bits change.
func edges() []api.Word {
	l := []api.Word{
		zero, one, {2}, {3}, {127}, {128}, {255}, {256}, {257}, top, half,
		{ones}, {ones - 1}, {ones, ones}, {ones, ones, ones}, {0, ones}, {0, 0, ones}, {0, 0, 0, ones},
		{ones, 0, ones}, {0, ones, 0, ones}, {ones, 0, 0, 1}, {1, 0, 0, 1}, {1, 1, 1, 1}, {0, 1, 1},
		{ones - 1, ones, ones, ones}, {ones, ones, ones, 1<<63 - 1}, {1, 0, 0, 1 << 63}, {1, 2, 3, 4},
		{0x08090a0b0c0d0e0f, 0x1011121314151617, 0x18191a1b1c1d1e1f, 0xf1f2f3f4f5f6f7f8},
	}
	for n := 0; n < 256; n += 31 {
		l = append(l, round(new(big.Int).Lsh(big.NewInt(1), uint(n))))
	}
	for _, n := range []uint{63, 64, 65, 127, 128, 129, 191, 192, 193} {
		l = append(l, round(new(big.Int).Lsh(big.NewInt(1), n)))
	}
	return l
}

// samples are the edges and some words of all lengths beside them.
func samples(more int) []api.Word {
	l := edges()
	m := mix(1)
	for i := range more {
		a := api.Word{m.next(), m.next(), m.next(), m.next()}
		for j := range i % 4 {
			a[3-j] = 0
		}
		if i%8 > 3 {
			a[m.next()%4] = ones
		}
		l = append(l, a)
	}
	return l
}

// shifts are all counts up to beyond a word's bits, and great ones.
func shifts() []uint {
	var l []uint
	for n := range uint(260) {
		l = append(l, n)
	}
	return append(l, 319, 320, 511, 512, 1<<16, 1<<32, 1<<40, 1<<63, ^uint(0)-255, ^uint(0))
}

func TestP11SumsDifferencesProducts(t *testing.T) {
	for _, a := range samples(60) {
		for _, b := range samples(60) {
			x, y := number(a), number(b)
			if got, want := word.Add(a, b), round(new(big.Int).Add(x, y)); got != want {
				t.Errorf("Add(%x, %x) = %x, want %x", a, b, got, want)
			}
			if got, want := word.Sub(a, b), round(new(big.Int).Sub(x, y)); got != want {
				t.Errorf("Sub(%x, %x) = %x, want %x", a, b, got, want)
			}
			if got, want := word.Mul(a, b), round(new(big.Int).Mul(x, y)); got != want {
				t.Errorf("Mul(%x, %x) = %x, want %x", a, b, got, want)
			}
			if got, want := word.Compare(a, b), x.Cmp(y); got != want {
				t.Errorf("Compare(%x, %x) = %d, want %d", a, b, got, want)
			}
		}
	}
}

func TestP11BitByBit(t *testing.T) {
	for _, a := range samples(60) {
		for _, b := range samples(60) {
			x, y := number(a), number(b)
			if got, want := word.And(a, b), round(new(big.Int).And(x, y)); got != want {
				t.Errorf("And(%x, %x) = %x, want %x", a, b, got, want)
			}
			if got, want := word.Or(a, b), round(new(big.Int).Or(x, y)); got != want {
				t.Errorf("Or(%x, %x) = %x, want %x", a, b, got, want)
			}
			if got, want := word.Xor(a, b), round(new(big.Int).Xor(x, y)); got != want {
				t.Errorf("Xor(%x, %x) = %x, want %x", a, b, got, want)
			}
		}
		if got, want := word.Not(a), round(new(big.Int).Not(number(a))); got != want {
			t.Errorf("Not(%x) = %x, want %x", a, got, want)
		}
	}
}

func TestP11GoesRound(t *testing.T) {
	for i, x := range []struct{ got, want api.Word }{
		{word.Add(top, one), zero},
		{word.Add(top, top), api.Word{ones - 1, ones, ones, ones}},
		{word.Add(half, half), zero},
		{word.Add(api.Word{ones}, one), api.Word{0, 1}},
		{word.Add(api.Word{ones, ones, ones}, one), api.Word{0, 0, 0, 1}},
		{word.Sub(zero, one), top},
		{word.Sub(zero, top), one},
		{word.Sub(api.Word{0, 0, 0, 1}, one), api.Word{ones, ones, ones}},
		{word.Sub(one, api.Word{2}), top},
		{word.Mul(half, api.Word{2}), zero},
		{word.Mul(top, top), one},
		{word.Mul(top, api.Word{2}), api.Word{ones - 1, ones, ones, ones}},
		{word.Mul(api.Word{0, 0, 1}, api.Word{0, 0, 1}), zero},
		{word.Mul(api.Word{0, 0, 1}, api.Word{0, 1}), api.Word{0, 0, 0, 1}},
		{word.Mul(api.Word{ones, ones}, api.Word{ones, ones}), api.Word{1, 0, ones - 1, ones}},
		{word.Not(zero), top},
		{word.Not(top), zero},
	} {
		if x.got != x.want {
			t.Errorf("%d: %x, want %x", i, x.got, x.want)
		}
	}
}

func TestP11Shifts(t *testing.T) {
	for _, a := range samples(20) {
		for _, n := range shifts() {
			up, down := zero, zero
			if n < 1<<16 {
				up = round(new(big.Int).Lsh(number(a), n))
				down = round(new(big.Int).Rsh(number(a), n))
			}
			if got := word.Shl(a, n); got != up {
				t.Errorf("Shl(%x, %d) = %x, want %x", a, n, got, up)
			}
			if got := word.Shr(a, n); got != down {
				t.Errorf("Shr(%x, %d) = %x, want %x", a, n, got, down)
			}
		}
	}
}

func TestP11ShiftEdges(t *testing.T) {
	a := api.Word{1<<63 | 1, 1<<63 | 2, 1<<63 | 3, 1<<63 | 5}
	for i, x := range []struct {
		n        uint
		up, down api.Word
	}{
		{0, a, a},
		{1, api.Word{2, 5, 7, 11}, api.Word{1 << 62, 1<<63 | 1<<62 | 1, 1<<63 | 1<<62 | 1, 1<<62 | 2}},
		{64, api.Word{0, a[0], a[1], a[2]}, api.Word{a[1], a[2], a[3]}},
		{128, api.Word{0, 0, a[0], a[1]}, api.Word{a[2], a[3]}},
		{192, api.Word{0, 0, 0, a[0]}, api.Word{a[3]}},
		{255, half, one},
		{256, zero, zero},
		{257, zero, zero},
		{320, zero, zero},
		{1 << 32, zero, zero},
		{^uint(0), zero, zero},
	} {
		if up, down := word.Shl(a, x.n), word.Shr(a, x.n); up != x.up || down != x.down {
			t.Errorf("%d: by %d: %x and %x, want %x and %x", i, x.n, up, down, x.up, x.down)
		}
	}
}

func TestP11Bits(t *testing.T) {
	for _, a := range samples(30) {
		x := number(a)
		for _, n := range shifts() {
			want := n < 256 && x.Bit(int(n)) == 1
			if got := word.Bit(a, n); got != want {
				t.Errorf("Bit(%x, %d) = %t", a, n, got)
			}
		}
		if got, want := word.Len(a), x.BitLen(); got != want {
			t.Errorf("Len(%x) = %d, want %d", a, got, want)
		}
	}
	for n := range 256 {
		a := round(new(big.Int).Lsh(big.NewInt(1), uint(n)))
		if got := word.Len(a); got != n+1 {
			t.Errorf("Len(2^%d) = %d", n, got)
		}
		if got := word.Len(word.Sub(a, one)); got != n {
			t.Errorf("Len(2^%d - 1) = %d", n, got)
		}
	}
}

func TestP11Bytes(t *testing.T) {
	places := []uint64{32, 33, 63, 64, 255, 256, 1 << 32, 1<<32 + 31, 1 << 63, ones - 31, ones}
	for _, a := range samples(60) {
		var want [32]byte
		number(a).FillBytes(want[:])
		if got := word.Bytes(a); got != want {
			t.Errorf("Bytes(%x) = %x, want %x", a, got, want)
		}
		for i, b := range want {
			if got := word.Byte(a, uint64(i)); got != b {
				t.Errorf("Byte(%x, %d) = %x, want %x", a, i, got, b)
			}
		}
		for _, n := range places {
			if got := word.Byte(a, n); got != 0 {
				t.Errorf("Byte(%x, %d) = %x", a, n, got)
			}
		}
		if got, want := word.Size(a), len(number(a).Bytes()); got != want {
			t.Errorf("Size(%x) = %d, want %d", a, got, want)
		}
	}
}

func TestP11Sizes(t *testing.T) {
	if word.Size(zero) != 0 || word.Size(top) != 32 {
		t.Error("no bits or all:", word.Size(zero), word.Size(top))
	}
	for n := range uint(32) {
		a := round(new(big.Int).Lsh(big.NewInt(1), 8*n))
		if got, less := word.Size(a), word.Size(word.Sub(a, one)); got != int(n)+1 || less != int(n) {
			t.Errorf("2^%d: Size %d, and %d one below", 8*n, got, less)
		}
	}
}

func TestP11From(t *testing.T) {
	if word.From(nil) != zero || word.From([]byte{}) != zero {
		t.Error("no bytes")
	}
	m := mix(2)
	for n := range 100 {
		b := make([]byte, n)
		for i := range b {
			b[i] = byte(m.next()) | 1
		}
		if got, want := word.From(b), round(new(big.Int).SetBytes(b)); got != want {
			t.Errorf("From(%x) = %x, want %x", b, got, want)
		}
	}
	if word.From(append([]byte{1}, make([]byte, 32)...)) != zero {
		t.Error("2^256 as 33 bytes")
	}
	if word.From(append(make([]byte, 1000), 7)) != (api.Word{7}) {
		t.Error("noughts ahead")
	}
	if word.From(bytes.Repeat([]byte{255}, 33)) != top {
		t.Error("more than 32, all bits 1")
	}
}

func TestFromLeavesItsBytes(t *testing.T) {
	whole := bytes.Repeat([]byte{0xa5}, 64)
	b := whole[10:50]
	word.From(b)
	if !bytes.Equal(whole, bytes.Repeat([]byte{0xa5}, 64)) {
		t.Errorf("changed: %x", whole)
	}
	a := word.From(b)
	clear(whole)
	if a != (api.Word{0xa5a5a5a5a5a5a5a5, 0xa5a5a5a5a5a5a5a5, 0xa5a5a5a5a5a5a5a5, 0xa5a5a5a5a5a5a5a5}) {
		t.Errorf("changed with the bytes: %x", a)
	}
}

func TestP11Small(t *testing.T) {
	for _, n := range []uint64{0, 1, 2, 255, 1 << 32, 1 << 63, ones - 1, ones} {
		if word.Of(n) != (api.Word{n}) {
			t.Errorf("Of(%d) = %x", n, word.Of(n))
		}
		if got, ok := word.Small(api.Word{n}); got != n || !ok {
			t.Errorf("Small(%d) = %d, %t", n, got, ok)
		}
	}
	for _, a := range []api.Word{{0, 1}, {0, 0, 1}, {0, 0, 0, 1}, {7, 1}, {7, 0, 1}, {7, 0, 0, 1}, {7, 0, 0, 1 << 63}, top} {
		if got, ok := word.Small(a); got != 0 || ok {
			t.Errorf("Small(%x) = %d, %t", a, got, ok)
		}
	}
}

func TestP11CompareByTheHighestPart(t *testing.T) {
	for i, x := range []struct {
		less, more api.Word
	}{
		{zero, one}, {api.Word{ones}, api.Word{0, 1}}, {api.Word{ones, ones}, api.Word{0, 0, 1}},
		{api.Word{ones, ones, ones}, api.Word{0, 0, 0, 1}}, {api.Word{9, 9, 9, 1}, api.Word{1, 1, 1, 9}},
		{api.Word{1, 5, 5, 5}, api.Word{2, 5, 5, 5}}, {api.Word{9, 1, 5, 5}, api.Word{1, 2, 5, 5}},
		{api.Word{ones, ones, ones, 1<<63 - 1}, half}, {half, top},
	} {
		if word.Compare(x.less, x.more) != -1 || word.Compare(x.more, x.less) != 1 || word.Compare(x.less, x.less) != 0 {
			t.Error(i, x)
		}
	}
}

func TestP12ThereAndBack(t *testing.T) {
	for _, a := range samples(60) {
		b := word.Bytes(a)
		if got := word.From(b[:]); got != a {
			t.Errorf("From(Bytes(%x)) = %x", a, got)
		}
		if got := word.From(b[32-word.Size(a):]); got != a {
			t.Errorf("From the last %d bytes of %x = %x", word.Size(a), a, got)
		}
		for _, c := range samples(60) {
			if got := word.Sub(word.Add(a, c), c); got != a {
				t.Errorf("%x + %x - %x = %x", a, c, c, got)
			}
			if got := word.Add(word.Sub(a, c), c); got != a {
				t.Errorf("%x - %x + %x = %x", a, c, c, got)
			}
		}
	}
}

func TestP13Ring(t *testing.T) {
	l := samples(16)
	for _, a := range l {
		for _, b := range l {
			if word.Add(a, b) != word.Add(b, a) || word.Mul(a, b) != word.Mul(b, a) {
				t.Errorf("the order of %x and %x tells", a, b)
			}
			for _, c := range l {
				ring(t, a, b, c)
			}
		}
		if word.Add(a, zero) != a || word.Mul(a, one) != a || word.Mul(a, zero) != zero {
			t.Errorf("%x with 0 and 1", a)
		}
		if word.Add(a, word.Sub(zero, a)) != zero {
			t.Errorf("%x and what is opposite", a)
		}
	}
}

func ring(t *testing.T, a, b, c api.Word) {
	t.Helper()
	if word.Add(word.Add(a, b), c) != word.Add(a, word.Add(b, c)) {
		t.Errorf("sums of %x, %x, %x", a, b, c)
	}
	if word.Mul(word.Mul(a, b), c) != word.Mul(a, word.Mul(b, c)) {
		t.Errorf("products of %x, %x, %x", a, b, c)
	}
	if word.Mul(a, word.Add(b, c)) != word.Add(word.Mul(a, b), word.Mul(a, c)) {
		t.Errorf("%x times the sum of %x and %x", a, b, c)
	}
}

func TestExamples(t *testing.T) {
	if got := word.Sub(word.Of(0), word.Of(1)); got != top {
		t.Errorf("Sub(0, 1) = %x", got)
	}
	if got := word.Mul(half, word.Of(2)); got != zero {
		t.Errorf("Mul(2^255, 2) = %x", got)
	}
	if got := word.Shr(api.Word{0, 1}, 1); got != (api.Word{1 << 63}) {
		t.Errorf("Shr(2^64, 1) = %x", got)
	}
	if got := word.Len(word.Of(256)); got != 9 {
		t.Errorf("Len(256) = %d", got)
	}
}
