package gas_test

import (
	"bytes"
	"math/rand/v2"
	"slices"
	"testing"

	"smithy/api"
	"smithy/gas"
)

func TestExamples(t *testing.T) {
	if price, refund := gas.Sstore(api.Word{}, api.Word{}, api.Word{1}, true); price != 22100 || refund != 0 {
		t.Errorf("Sstore(0, 0, 1, true) = %d, %d", price, refund)
	}
	if price, refund := gas.Sstore(api.Word{1}, api.Word{1}, api.Word{}, false); price != 2900 || refund != 4800 {
		t.Errorf("Sstore(1, 1, 0, false) = %d, %d", price, refund)
	}
	if got := gas.Part(6400); got != 6300 {
		t.Errorf("Part(6400) = %d", got)
	}
	if got := gas.Refund(100, 50); got != 20 {
		t.Errorf("Refund(100, 50) = %d", got)
	}
}

func TestP121Exp(t *testing.T) {
	if got := gas.Exp(api.Word{}); got != 10 {
		t.Errorf("Exp(0) = %d", got)
	}
	for size := 1; size <= 32; size++ {
		want := long(uint64(10 + 50*size))
		// The least and the greatest exponent of so many bytes.
		least, greatest := api.Word{}, api.Word{}
		least[(size-1)/8] = 1 << (8 * ((size - 1) % 8))
		for i := range size {
			greatest[i/8] |= 255 << (8 * (i % 8))
		}
		check(t, "Exp", least, gas.Exp(least), want)
		check(t, "Exp", greatest, gas.Exp(greatest), want)
	}
	check(t, "Exp", "all bits", gas.Exp(api.Word{ones, ones, ones, ones}), long(1610))
	for bit := range 256 {
		n := api.Word{}
		n[bit/64] = 1 << (bit % 64)
		check(t, "Exp", n, gas.Exp(n), long(uint64(10+50*(bit/8+1))))
	}
}

func TestP121PricesOfAWord(t *testing.T) {
	for _, n := range lengths() {
		words := modelWords(n)
		check(t, "Copy", n, gas.Copy(n), priced(0, long(3), words))
		check(t, "Keccak", n, gas.Keccak(n), priced(30, long(6), words))
		check(t, "Create without a salt", n, gas.Create(n, false), priced(32000, long(2), words))
		check(t, "Create by a salt", n, gas.Create(n, true), priced(32000, long(2), words, long(6), words))
		check(t, "Deposit", n, gas.Deposit(n), priced(0, long(200), long(n)))
	}
}

// The prices at a word's ends, worked out by hand.
func TestP121PricesAtAWordsEnds(t *testing.T) {
	for _, x := range []struct{ n, copied, hashed, made, salted, kept uint64 }{
		{0, 0, 30, 32000, 32000, 0},
		{1, 3, 36, 32002, 32008, 200},
		{31, 3, 36, 32002, 32008, 6200},
		{32, 3, 36, 32002, 32008, 6400},
		{33, 6, 42, 32004, 32016, 6600},
		{63, 6, 42, 32004, 32016, 12600},
		{64, 6, 42, 32004, 32016, 12800},
		{65, 9, 48, 32006, 32024, 13000},
		{1<<32 - 32, 402653181, 805306392, 268467454, 1073773816, 858993452800},
		{1<<32 - 31, 402653184, 805306398, 268467456, 1073773824, 858993453000},
		{1 << 32, 402653184, 805306398, 268467456, 1073773824, 858993459200},
	} {
		got := []uint64{gas.Copy(x.n), gas.Keccak(x.n), gas.Create(x.n, false), gas.Create(x.n, true), gas.Deposit(x.n)}
		if want := []uint64{x.copied, x.hashed, x.made, x.salted, x.kept}; !slices.Equal(got, want) {
			t.Errorf("of %d bytes: %d, want %d", x.n, got, want)
		}
	}
}

func TestP121Log(t *testing.T) {
	for topics := range 5 {
		for _, n := range lengths() {
			want := priced(375, long(375), long(uint64(topics)), long(8), long(n))
			check(t, "Log", []any{topics, n}, gas.Log(topics, n), want)
		}
	}
	for topics, want := range []uint64{375, 750, 1125, 1500, 1875} {
		check(t, "Log of no bytes", topics, gas.Log(topics, 0), long(want))
		check(t, "Log of 33 bytes", topics, gas.Log(topics, 33), long(want+264))
		check(t, "Log of 2^32 bytes", topics, gas.Log(topics, 1<<32), long(want+34359738368))
	}
}

func TestP121PricesOfAccounts(t *testing.T) {
	for _, x := range []struct {
		what      string
		got, want uint64
	}{
		{"Sload(true)", gas.Sload(true), 2100},
		{"Sload(false)", gas.Sload(false), 100},
		{"Account(true)", gas.Account(true), 2600},
		{"Account(false)", gas.Account(false), 100},
		{"Call(false, false, false)", gas.Call(false, false, false), 100},
		{"Call(false, false, true)", gas.Call(false, false, true), 100},
		{"Call(false, true, false)", gas.Call(false, true, false), 9100},
		{"Call(false, true, true)", gas.Call(false, true, true), 34100},
		{"Call(true, false, false)", gas.Call(true, false, false), 2600},
		{"Call(true, false, true)", gas.Call(true, false, true), 2600},
		{"Call(true, true, false)", gas.Call(true, true, false), 11600},
		{"Call(true, true, true)", gas.Call(true, true, true), 36600},
		{"Destroy(false, false)", gas.Destroy(false, false), 5000},
		{"Destroy(false, true)", gas.Destroy(false, true), 30000},
		{"Destroy(true, false)", gas.Destroy(true, false), 7600},
		{"Destroy(true, true)", gas.Destroy(true, true), 32600},
	} {
		if x.got != x.want {
			t.Errorf("%s = %d, want %d", x.what, x.got, x.want)
		}
	}
}

func TestP121Part(t *testing.T) {
	for _, x := range []struct{ left, want uint64 }{
		{0, 0}, {1, 1}, {63, 63}, {64, 63}, {65, 64}, {127, 126}, {128, 126}, {129, 127},
		{6399, 6300}, {6400, 6300}, {6401, 6301}, {1 << 40, 1<<40 - 1<<34},
		{1 << 63, 1<<63 - 1<<57}, {ones - 63, 18158513697557839809}, {ones, 18158513697557839872},
	} {
		check(t, "Part", x.left, gas.Part(x.left), long(x.want))
	}
	r := rand.New(rand.NewPCG(12, 2))
	for i := range 5000 {
		left := r.Uint64() >> (i % 64)
		part := long(left)
		part.Sub(long(left), part.Div(part, long(64)))
		check(t, "Part", left, gas.Part(left), part)
	}
}

// data are so many bytes that are 0, ahead of so many that aren't.
func data(noughts, others int) []byte {
	return append(make([]byte, noughts), bytes.Repeat([]byte{1}, others)...)
}

func TestP121Intrinsic(t *testing.T) {
	l := []uint64{0, 1, 2, 63, 1 << 31, 1<<32 - 1, 1 << 32}
	for _, n := range []int{0, 1, 2, 31, 32, 33, 63, 64, 65, 95, 96, 97, 1<<17 - 1, 1 << 17} {
		for _, others := range []int{0, 1, n / 2, n - 1, n} {
			if others < 0 || others > n {
				continue
			}
			d := data(n-others, others)
			for _, addresses := range l {
				for _, slots := range l {
					want := priced(21000, long(4), long(uint64(n-others)), long(16), long(uint64(others)),
						long(2400), long(addresses), long(1900), long(slots))
					what := []any{n - others, others, addresses, slots}
					check(t, "Intrinsic", what, gas.Intrinsic(d, false, addresses, slots), want)
					want.Add(want, priced(32000, long(2), modelWords(uint64(n))))
					check(t, "Intrinsic of a creation", what, gas.Intrinsic(d, true, addresses, slots), want)
				}
			}
		}
	}
}

// What a transaction costs ahead of all, worked out by hand.
func TestP121IntrinsicByHand(t *testing.T) {
	const most = 1 << 32
	for i, x := range []struct {
		data             []byte
		create           bool
		addresses, slots uint64
		want             uint64
	}{
		{nil, false, 0, 0, 21000},
		{[]byte{}, false, 0, 0, 21000},
		{nil, true, 0, 0, 53000},
		{[]byte{}, true, 0, 0, 53000},
		{[]byte{0}, false, 0, 0, 21004},
		{[]byte{1}, false, 0, 0, 21016},
		{[]byte{255}, false, 0, 0, 21016},
		{[]byte{128}, true, 0, 0, 53018},
		{data(32, 0), true, 0, 0, 53130},
		{data(33, 0), true, 0, 0, 53136},
		{data(16, 16), true, 0, 0, 53322},
		{data(0, 33), true, 0, 0, 53532},
		{data(0, 33), false, 0, 0, 21528},
		{nil, false, 1, 0, 23400},
		{nil, false, 0, 1, 22900},
		{nil, true, 1, 1, 57300},
		{nil, false, most, 0, 10307921531400},
		{nil, false, 0, most, 8160437883400},
		{data(1, 1), true, most, most, 18468359425822},
	} {
		if got := gas.Intrinsic(x.data, x.create, x.addresses, x.slots); got != x.want {
			t.Errorf("row %d: %d, want %d", i, got, x.want)
		}
	}
}

// Each byte but 0 costs the same, wherever it stands.
func TestP121IntrinsicOfEachByte(t *testing.T) {
	for b := range 256 {
		want := uint64(21000 + 40*4)
		if b != 0 {
			want += 16 - 4
		}
		for at := range 40 {
			d := make([]byte, 40)
			d[at] = byte(b)
			if got := gas.Intrinsic(d, false, 0, 0); got != want {
				t.Fatalf("Intrinsic of a byte %d at %d = %d, want %d", b, at, got, want)
			}
		}
	}
}

func TestP121Refund(t *testing.T) {
	for _, x := range []struct{ used, counter, want uint64 }{
		{0, 0, 0}, {0, 1, 0}, {0, ones, 0},
		{1, 0, 0}, {1, 1, 0}, {2, 2, 0}, {3, 3, 0}, {4, 4, 0},
		{5, 0, 0}, {5, 1, 1}, {5, 2, 1}, {6, 1, 1}, {6, 9, 1}, {7, 9, 1}, {8, 9, 1}, {9, 1, 1}, {9, 9, 1},
		{10, 1, 1}, {10, 2, 2}, {10, 3, 2},
		{100, 19, 19}, {100, 20, 20}, {100, 21, 20}, {100, 50, 20}, {104, 21, 20}, {105, 21, 21},
		{ones, 0, 0}, {ones, ones, 3689348814741910323}, {ones, 3689348814741910322, 3689348814741910322},
		{ones, 3689348814741910323, 3689348814741910323}, {ones, 3689348814741910324, 3689348814741910323},
		{ones - 1, ones, 3689348814741910322}, {5, ones, 1},
	} {
		check(t, "Refund", []uint64{x.used, x.counter}, gas.Refund(x.used, x.counter), long(x.want))
	}
	r := rand.New(rand.NewPCG(12, 3))
	for i := range 5000 {
		used, counter := r.Uint64()>>(i%64), r.Uint64()>>(i/64%64)
		want := long(used)
		if want.Div(want, long(5)); want.Cmp(long(counter)) > 0 {
			want = long(counter)
		}
		check(t, "Refund", []uint64{used, counter}, gas.Refund(used, counter), want)
	}
}

func TestWhatIsHandedInStays(t *testing.T) {
	whole := data(20, 44)
	before := slices.Clone(whole)
	d := whole[10:50]
	if a, b := gas.Intrinsic(d, true, 1, 1), gas.Intrinsic(d, true, 1, 1); a != b {
		t.Errorf("the same data cost %d, then %d", a, b)
	}
	if !bytes.Equal(whole, before) || len(d) != 40 || cap(d) != 54 {
		t.Errorf("the data are changed: %v", whole)
	}
}
