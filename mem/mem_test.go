package mem_test

import (
	"bytes"
	"fmt"
	"math"
	"math/big"
	"math/rand/v2"
	"slices"
	"testing"

	"smithy/api"
	"smithy/mem"
)

// checkReach tells whether what reaching costs, and what comes of it, is as the
// model says, which reaches it then, too.
func checkReach(t *testing.T, m *mem.Memory, want *model, at, n api.Word) {
	t.Helper()
	row := fmt.Sprintf("%d bytes: %x bytes from %x on", len(*want), n, at)
	price, fits := want.cost(at, n)
	for range 2 { // Cost changes nothing, not even for itself
		if got, ok := m.Cost(at, n); got != price || ok != fits {
			t.Fatalf("%s: Cost %d, %t, want %d, %t", row, got, ok, price, fits)
		}
		if m.Len() != len(*want) {
			t.Fatalf("%s: length %d behind Cost", row, m.Len())
		}
	}
	want.reach(at, n)
	if ok := m.Reach(at, n); ok != fits {
		t.Fatalf("%s: Reach %t, want %t", row, ok, fits)
	}
	if m.Len() != len(*want) {
		t.Fatalf("%s: length %d, want %d", row, m.Len(), len(*want))
	}
	if got, ok := m.Cost(at, n); got != 0 || ok != fits {
		t.Fatalf("%s: Cost %d, %t behind Reach, want 0, %t", row, got, ok, fits)
	}
}

func TestP101EmptyMemory(t *testing.T) {
	m := mem.New()
	check(t, m, nil, "empty")
	for _, at := range places(0) {
		m.Write(at, some(1, 40))
		m.SetWord(at, api.Word{1, 2, 3, 4})
		m.Copy(at, 0, 40)
		m.Copy(0, at, 40)
		if got := m.Word(at); got != (api.Word{}) {
			t.Errorf("Word(%d) = %x", at, got)
		}
		check(t, m, nil, "empty still")
	}
}

func TestP101CostAndReachOfEmpty(t *testing.T) {
	for _, at := range words() {
		for _, n := range words() {
			m, want := mem.New(), model{}
			if price, fits := want.cost(at, n); fits && price > 10000 {
				// Not grown byte by byte for each of these; see TestP101UpToTheMost.
				if got, ok := m.Cost(at, n); got != price || !ok || m.Len() != 0 {
					t.Errorf("Cost(%x, %x) = %d, %t, want %d", at, n, got, ok, price)
				}
				continue
			}
			checkReach(t, m, &want, at, n)
			check(t, m, want, "reached")
		}
	}
}

func TestP101CostAndReachOfFilled(t *testing.T) {
	for _, length := range []int{1, 32, 33, 64, 1024} {
		m, want := filled(t, length, length)
		before := slices.Clone(want)
		for _, at := range words() {
			for _, n := range words() {
				price, fits := want.cost(at, n)
				if got, ok := m.Cost(at, n); got != price || ok != fits {
					t.Errorf("%d bytes: Cost(%x, %x) = %d, %t, want %d, %t", length, at, n, got, ok, price, fits)
				}
				if fits && price > 0 {
					continue
				}
				if ok := m.Reach(at, n); ok != fits {
					t.Errorf("%d bytes: Reach(%x, %x) = %t", length, at, n, ok)
				}
				if m.Len() != len(before) {
					t.Fatalf("%d bytes: Reach(%x, %x): %d bytes now", length, at, n, m.Len())
				}
			}
		}
		check(t, m, before, "reached already, or refused")
	}
}

func TestP101ReachOneByte(t *testing.T) {
	for _, x := range []struct {
		at, length int
		price      uint64
	}{{0, 32, 3}, {31, 32, 3}, {32, 64, 6}, {33, 64, 6}, {63, 64, 6}, {64, 96, 9}, {22 * 32, 23 * 32, 70}, {32*1024 - 1, 32 * 1024, 5120}, {32 * 1024, 32 * 1025, 5127}} {
		m := mem.New()
		if got, ok := m.Cost(small(x.at), small(1)); got != x.price || !ok {
			t.Errorf("Cost(%d, 1) = %d, %t", x.at, got, ok)
		}
		if m.Len() != 0 {
			t.Errorf("Cost(%d, 1) has made it %d bytes long", x.at, m.Len())
		}
		if !m.Reach(small(x.at), small(1)) || m.Len() != x.length {
			t.Errorf("Reach(%d, 1): %d bytes", x.at, m.Len())
		}
		check(t, m, make([]byte, x.length), "noughts")
	}
}

func TestP101ReachNoBytes(t *testing.T) {
	for _, length := range []int{0, 32, 64, 160} {
		m, want := filled(t, length, length)
		for _, at := range words() {
			checkReach(t, m, &want, at, api.Word{})
			if len(want) != length {
				t.Fatal("no bytes reach nothing")
			}
		}
		check(t, m, want, "no bytes")
	}
}

func TestP101UpToTheMost(t *testing.T) {
	for i, x := range []struct {
		at, n api.Word
		ok    bool
	}{
		{small(0), small(most), true}, {small(1), small(most - 1), true}, {small(most - 1), small(1), true},
		{small(most - 31), small(1), true}, {small(most - 32), small(32), true}, {small(most / 2), small(most / 2), true},
		{small(0), small(most + 1), false}, {small(1), small(most), false}, {small(most), small(1), false},
		{small(most - 1), small(2), false}, {small(most - 31), small(32), false}, {small(most), small(most), false},
		{small(most / 2), small(most/2 + 1), false}, {small(most + 1), small(1), false},
	} {
		m := mem.New()
		price := uint64(0)
		if x.ok {
			price = 3*(1<<17) + (1<<34)/512
		}
		if got, ok := m.Cost(x.at, x.n); got != price || ok != x.ok {
			t.Errorf("%d: Cost %d, %t, want %d, %t", i, got, ok, price, x.ok)
		}
		if ok := m.Reach(x.at, x.n); ok != x.ok {
			t.Errorf("%d: Reach %t", i, ok)
		}
		if x.ok != (m.Len() == most) || x.ok == (m.Len() == 0) {
			t.Errorf("%d: %d bytes", i, m.Len())
		}
	}
}

func TestP101FullMemory(t *testing.T) {
	m, want := filled(t, 1, most)
	for _, at := range words() {
		for _, n := range words() {
			_, fits := want.end(at, n)
			if got, ok := m.Cost(at, n); got != 0 || ok != fits {
				t.Errorf("Cost(%x, %x) = %d, %t, want 0, %t", at, n, got, ok, fits)
			}
			if ok := m.Reach(at, n); ok != fits {
				t.Errorf("Reach(%x, %x) = %t", at, n, ok)
			}
		}
	}
	check(t, m, want, "reached or refused")
	m.Write(most-2, []byte("abc"))
	want[most-2], want[most-1] = 'a', 'b'
	check(t, m, want, "written across its end")
	m.SetWord(most-32, api.Word{7})
	want.write(most-32, bytesOf(api.Word{7}))
	check(t, m, want, "its last word")
	m.Copy(1, 0, most)
	want.copy(1, 0, most)
	check(t, m, want, "all a byte on")
	m.Copy(0, 1, most)
	want.copy(0, 1, most)
	check(t, m, want, "all a byte back")
	m.Copy(0, 5, most+1)
	check(t, m, want, "more than all")
}

func TestP101CostOfEachLength(t *testing.T) {
	m, part := mem.New(), mem.New()
	part.Reach(api.Word{}, small(32*300))
	for w := range most/32 + 1 {
		whole := uint64(3*w) + uint64(w)*uint64(w)/512
		if got, ok := m.Cost(api.Word{}, small(32*w)); got != whole || !ok {
			t.Fatalf("%d words: Cost %d, %t, want %d", w, got, ok, whole)
		}
		more := max(whole, 900+175) - (900 + 175)
		if got, ok := part.Cost(small(16*w), small(16*w)); got != more || !ok {
			t.Fatalf("%d words beyond 300: Cost %d, %t, want %d", w, got, ok, more)
		}
	}
	if m.Len() != 0 || part.Len() != 9600 {
		t.Error("Cost has changed a memory")
	}
}

func TestP101CostsOneBehindTheOther(t *testing.T) {
	for seed := range 40 {
		r := rand.New(rand.NewPCG(uint64(seed), 1))
		m := mem.New()
		paid := uint64(0)
		room := 1 << (6 + seed%18) // from two words to beyond MaxMemory
		for range 60 {
			at, n := small(r.IntN(room)), small(r.IntN(room)*r.IntN(2))
			before := m.Len()
			price, fits := m.Cost(at, n)
			if ok := m.Reach(at, n); ok != fits {
				t.Fatalf("%d: Reach(%x, %x) = %t", seed, at, n, ok)
			}
			if !fits && m.Len() != before {
				t.Fatalf("%d: Reach(%x, %x) was refused: %d bytes, %d ahead", seed, at, n, m.Len(), before)
			}
			paid += price
		}
		if m.Len()%32 != 0 || m.Len() > most || paid != modelPrice(long(m.Len()/32)) || paid != mem.Price(mem.Words(uint64(m.Len()))) {
			t.Errorf("%d: %d paid for %d bytes", seed, paid, m.Len())
		}
	}
}

func TestP101GrowsByNoughts(t *testing.T) {
	m, want := mem.New(), model{}
	for n := 1; n < 3000; n += 7 {
		checkReach(t, m, &want, small(n), small(1))
		check(t, m, want, "grown")
		b := some(n, len(want))
		m.Write(0, b)
		want.write(0, b)
		check(t, m, want, "filled")
	}
}

func TestP101Read(t *testing.T) {
	for _, length := range []int{0, 32, 64} {
		m, want := filled(t, length, length)
		for _, at := range places(length) {
			for _, n := range append([]int{math.MinInt, math.MinInt + 1, -33, -32, -1, 1000, most + 1, most + 2, math.MaxInt - 1, math.MaxInt}, near(length)...) {
				if got := m.Read(at, n); !bytes.Equal(got, want.read(at, n)) {
					t.Errorf("%d bytes: Read(%d, %d) = %x", length, at, n, got)
				}
			}
		}
		check(t, m, want, "read")
	}
}

func TestP101ReadMuch(t *testing.T) {
	m, want := filled(t, 5, 320)
	for _, at := range []int{0, 1, 319, 320, 321, most - 1, most, math.MaxInt32, math.MaxInt - most, math.MaxInt - 1, math.MaxInt} {
		for _, n := range []int{most - 1, most} {
			if got := m.Read(at, n); len(got) != n || !bytes.Equal(got, want.read(at, n)) {
				t.Errorf("Read(%d, %d): %d bytes", at, n, len(got))
			}
		}
		for _, n := range []int{most + 1, math.MaxInt32, math.MaxInt} {
			if got := m.Read(at, n); len(got) != 0 {
				t.Errorf("Read(%d, %d): %d bytes", at, n, len(got))
			}
		}
	}
	for _, n := range []int{1, 32, most} {
		for _, at := range []int{-1, -32, math.MinInt} {
			if got := m.Read(at, n); len(got) != 0 {
				t.Errorf("Read(%d, %d): %d bytes", at, n, len(got))
			}
		}
	}
}

func TestP102Write(t *testing.T) {
	for _, length := range []int{0, 32, 64} {
		for _, at := range places(length) {
			for n := range length + 70 {
				m, want := filled(t, length, length)
				b := some(n+1000, n)
				m.Write(at, b)
				want.write(at, b)
				check(t, m, want, fmt.Sprintf("%d bytes: Write(%d, %d bytes)", length, at, n))
				if within := min(n, length-at); at >= 0 && within > 0 && !bytes.Equal(m.Read(at, within), b[:within]) {
					t.Errorf("%d bytes: what was written at %d isn't read", length, at)
				}
			}
			m, want := filled(t, length, length)
			m.Write(at, nil)
			m.Write(at, []byte{})
			check(t, m, want, "no bytes written")
		}
	}
}

// checkCopy tells whether a copy within a memory of that length is the model's.
func checkCopy(t *testing.T, length, to, from, n int) {
	t.Helper()
	m, want := filled(t, length, length)
	m.Copy(to, from, n)
	want.copy(to, from, n)
	check(t, m, want, fmt.Sprintf("%d bytes: Copy(%d, %d, %d)", length, to, from, n))
}

func TestP102Copy(t *testing.T) {
	counts := []int{math.MinInt, math.MinInt + 1, -32, -1, 0, 1, 2, 7, 8, 31, 32, 33, 63, 64, 65, 100, most + 1, math.MaxInt32, math.MaxInt - 1, math.MaxInt}
	for _, length := range []int{0, 32, 64} {
		for _, to := range places(length) {
			for _, from := range places(length) {
				for _, n := range counts {
					checkCopy(t, length, to, from, n)
				}
			}
		}
	}
}

func TestP102CopyMuch(t *testing.T) {
	places := append(far(), 0, 1, 31, 32, 33, 63, 64, 65, most-1)
	for _, to := range places {
		for _, from := range places {
			checkCopy(t, 64, to, from, most-1)
			checkCopy(t, 64, to, from, most)
		}
	}
}

func TestP102CopyWithPlacesThatOverlap(t *testing.T) {
	for _, x := range []struct {
		to, from, n int
		want        string
	}{
		{1, 0, 5, "aabcdeghijklmnopqrstuvwxyz012345"}, {0, 1, 5, "bcdeffghijklmnopqrstuvwxyz012345"},
		{3, 0, 6, "abcabcdefjklmnopqrstuvwxyz012345"}, {0, 3, 6, "defghighijklmnopqrstuvwxyz012345"},
		{4, 4, 8, "abcdefghijklmnopqrstuvwxyz012345"}, {0, 30, 4, "45\x00\x00efghijklmnopqrstuvwxyz012345"},
		{0, 32, 3, "\x00\x00\x00defghijklmnopqrstuvwxyz012345"}, {0, math.MaxInt, 3, "\x00\x00\x00defghijklmnopqrstuvwxyz012345"},
		{30, 0, 5, "abcdefghijklmnopqrstuvwxyz0123ab"}, {32, 0, 5, "abcdefghijklmnopqrstuvwxyz012345"},
		{29, 30, 9, "abcdefghijklmnopqrstuvwxyz01245\x00"}, {-1, 0, 5, "abcdefghijklmnopqrstuvwxyz012345"},
		{0, -1, 5, "abcdefghijklmnopqrstuvwxyz012345"}, {0, 1, 0, "abcdefghijklmnopqrstuvwxyz012345"},
		{0, 1, -1, "abcdefghijklmnopqrstuvwxyz012345"}, {0, 1, most + 1, "abcdefghijklmnopqrstuvwxyz012345"},
		{31, 0, most, "abcdefghijklmnopqrstuvwxyz01234a"},
	} {
		m := mem.New()
		m.Reach(api.Word{}, small(32))
		m.Write(0, []byte("abcdefghijklmnopqrstuvwxyz012345"))
		m.Copy(x.to, x.from, x.n)
		check(t, m, model(x.want), fmt.Sprintf("Copy(%d, %d, %d)", x.to, x.from, x.n))
	}
	m := mem.New()
	m.Reach(api.Word{}, small(32))
	m.Write(0, some(1, 32))
	m.Copy(0, 1, most)
	check(t, m, append(some(1, 32)[1:], 0), "all a byte back")
	m.Copy(0, 40, most)
	check(t, m, make([]byte, 32), "noughts from behind the end")
}

func TestP102Words(t *testing.T) {
	values := []api.Word{{}, {1}, {0x0102}, {ones, ones, ones, ones}, {0, 0, 0, 1 << 63}, {0x18191a1b1c1d1e1f, 0x1011121314151617, 0x08090a0b0c0d0e0f, 0x0001020304050607}}
	for _, length := range []int{0, 32, 64, 96} {
		for _, at := range places(length) {
			m, want := filled(t, length, length)
			if got := m.Word(at); got != wordOf(want.read(at, 32)) {
				t.Errorf("%d bytes: Word(%d) = %x", length, at, got)
			}
			for _, a := range values {
				m, want := filled(t, length, length)
				m.SetWord(at, a)
				want.write(at, bytesOf(a))
				check(t, m, want, fmt.Sprintf("%d bytes: SetWord(%d, %x)", length, at, a))
				if got := m.Word(at); got != wordOf(want.read(at, 32)) {
					t.Errorf("%d bytes: Word(%d) = %x behind SetWord", length, at, got)
				}
				if got := m.Word(at); at >= 0 && at <= length-32 && got != a {
					t.Errorf("%d bytes: Word(%d) = %x, %x was set", length, at, got, a)
				}
			}
		}
	}
}

// place is one that rows of calls ask for: about a memory's ends, mostly.
func place(r *rand.Rand, length int) int {
	switch r.IntN(12) {
	case 0:
		return -1 - r.IntN(40)
	case 1:
		return []int{math.MinInt, math.MaxInt, math.MaxInt - 31, math.MaxInt32, most + 1, length, length - 1, length - 32}[r.IntN(8)]
	}
	return r.IntN(length + 40)
}

func TestP101RowsOfCalls(t *testing.T) {
	all := words()
	for seed := range 1500 {
		r := rand.New(rand.NewPCG(uint64(seed), 2))
		m, want := mem.New(), model{}
		for step := range 60 {
			at, n := place(r, len(want)), place(r, len(want))
			switch r.IntN(7) {
			case 0:
				checkReach(t, m, &want, small(r.IntN(400)), small(r.IntN(80)))
			case 1:
				x, y := all[r.IntN(len(all))], all[r.IntN(len(all))]
				if price, fits := want.cost(x, y); !fits || price < 100 {
					checkReach(t, m, &want, x, y)
				}
			case 2:
				if got := m.Read(at, n); !bytes.Equal(got, want.read(at, n)) {
					t.Fatalf("%d, %d: Read(%d, %d) = %x", seed, step, at, n, got)
				}
			case 3:
				b := some(step, max(n, 0)%1000)
				m.Write(at, b)
				want.write(at, b)
			case 4:
				from := place(r, len(want))
				m.Copy(at, from, n)
				want.copy(at, from, n)
			case 5:
				a := api.Word{r.Uint64(), r.Uint64(), r.Uint64(), r.Uint64()}
				m.SetWord(at, a)
				want.write(at, bytesOf(a))
			case 6:
				if got := m.Word(at); got != wordOf(want.read(at, 32)) {
					t.Fatalf("%d, %d: Word(%d) = %x", seed, step, at, got)
				}
			}
			check(t, m, want, fmt.Sprintf("row %d, call %d", seed, step))
		}
	}
}

func TestTwoMemories(t *testing.T) {
	a, b := mem.New(), mem.New()
	a.Reach(api.Word{}, small(64))
	a.Write(0, some(1, 64))
	check(t, b, nil, "another one")
	b.Reach(api.Word{}, small(32))
	check(t, b, make([]byte, 32), "another one, grown")
	b.Write(0, some(2, 32))
	check(t, a, some(1, 64), "the first one")
}

// turn turns all bits of bytes, of their spare room too.
func turn(b []byte) {
	room := b[:cap(b)]
	for i := range room {
		room[i] ^= 255
	}
}

// ends are places, and numbers of bytes, about the words of a memory of 96.
var ends = []int{0, 1, 31, 32, 33, 63, 64, 65, 95, 96, 97, 127, 128, 200}

func TestP102WhatIsHandedInStays(t *testing.T) {
	for _, at := range ends {
		for _, n := range ends {
			m, want := filled(t, n, 96)
			whole := some(at, n+100)
			b := whole[50 : 50+n]
			m.Write(at, b)
			want.write(at, b)
			if !bytes.Equal(whole, some(at, n+100)) {
				t.Fatalf("Write(%d, %d bytes): they are changed", at, n)
			}
			// Nor does the memory hang on what becomes of them.
			turn(whole)
			check(t, m, want, fmt.Sprintf("Write(%d, %d bytes), which are changed later", at, n))
			turn(whole)
			m.Write(0, make([]byte, 96))
			m.Reach(small(96), small(32))
			m.Write(0, make([]byte, 128))
			if !bytes.Equal(whole, some(at, n+100)) {
				t.Fatalf("Write(%d, %d bytes): they change with the memory", at, n)
			}
		}
	}
}

func TestP102AnswersAreNobodyElses(t *testing.T) {
	for _, at := range append(ends, -1, math.MaxInt) {
		for _, n := range append(ends, -1, most+1) {
			m, want := filled(t, 7, 96)
			answer := want.read(at, n)
			first, second := m.Read(at, n), m.Read(at, n)
			turn(second)
			check(t, m, want, fmt.Sprintf("Read(%d, %d), which is changed", at, n))
			if !bytes.Equal(first, answer) {
				t.Fatalf("Read(%d, %d) changes with another answer", at, n)
			}
			m.Write(0, make([]byte, 96))
			m.Reach(api.Word{}, small(4000))
			m.Write(0, make([]byte, 4000))
			if !bytes.Equal(first, answer) {
				t.Fatalf("Read(%d, %d) changes with the memory", at, n)
			}
		}
	}
}

func TestP101NumberOfWords(t *testing.T) {
	for n, want := range map[uint64]uint64{
		0: 0, 1: 1, 2: 1, 31: 1, 32: 1, 33: 2, 63: 2, 64: 2, 65: 3, most: 1 << 17, most + 1: 1<<17 + 1, 1 << 32: 1 << 27,
		1 << 63: 1 << 58, ones - 63: 1<<59 - 2, ones - 32: 1<<59 - 1, ones - 31: 1<<59 - 1, ones - 30: 1 << 59, ones - 1: 1 << 59, ones: 1 << 59,
	} {
		if got := mem.Words(n); got != want {
			t.Errorf("Words(%d) = %d, want %d", n, got, want)
		}
	}
	for n := range uint64(5000) {
		want := uint64(0)
		for 32*want < n {
			want++
		}
		if got := mem.Words(n); got != want {
			t.Errorf("Words(%d) = %d, want %d", n, got, want)
		}
	}
	for n := range 64 {
		for _, x := range []*big.Int{two(n), new(big.Int).Sub(two(n), long(1)), new(big.Int).Add(two(n), long(1))} {
			up := new(big.Int).Add(x, long(31))
			if got, want := mem.Words(x.Uint64()), up.Div(up, long(32)).Uint64(); got != want {
				t.Errorf("Words(%d) = %d, want %d", x, got, want)
			}
		}
	}
}

func TestP101Prices(t *testing.T) {
	for w, want := range map[uint64]uint64{
		0: 0, 1: 3, 2: 6, 22: 66, 23: 70, 31: 94, 32: 98, 39: 119, 40: 123, 512: 2048, 724: 3195, 1024: 5120, 1 << 17: 33947648,
		1<<32 - 1: 1<<55 - 1<<24 + 3*(1<<32-1), 1 << 32: 1<<55 + 3<<32, 1<<32 + 1: ones, 1<<32 + 2: ones, 1 << 33: ones,
		1 << 36: ones, 1 << 63: ones, ones - 1: ones, ones: ones,
	} {
		if got := mem.Price(w); got != want {
			t.Errorf("Price(%d) = %d, want %d", w, got, want)
		}
	}
	for w := range 1 << 17 {
		if got, want := mem.Price(uint64(w)), modelPrice(long(w)); got != want {
			t.Errorf("Price(%d) = %d, want %d", w, got, want)
		}
	}
	for n := range 64 {
		for _, x := range []*big.Int{two(n), new(big.Int).Sub(two(n), long(1)), new(big.Int).Add(two(n), long(1))} {
			if got, want := mem.Price(x.Uint64()), modelPrice(x); got != want {
				t.Errorf("Price(%d) = %d, want %d", x, got, want)
			}
		}
	}
}

// The least number of words whose square has one part of 512 more, and those
// about it.
func TestP101PricesWhereTheSquareRises(t *testing.T) {
	r := rand.New(rand.NewPCG(1, 3))
	for i := range 100000 {
		part := new(big.Int).SetUint64(r.Uint64() >> (9 + uint(i%54)))
		if i < 2000 {
			part = long(i)
		}
		w := new(big.Int).Mul(part, long(512))
		w.Sqrt(w)
		for range 3 { // it and two behind it, one of which is the least
			if got, want := mem.Price(w.Uint64()), modelPrice(w); got != want {
				t.Errorf("Price(%d) = %d, want %d", w, got, want)
			}
			w.Add(w, long(1))
		}
	}
}

func TestP101NilMemory(t *testing.T) {
	var m *mem.Memory
	if m.Len() != 0 {
		t.Error("Len", m.Len())
	}
	for _, at := range words() {
		for _, n := range words() {
			if got, ok := m.Cost(at, n); got != 0 || ok {
				t.Errorf("Cost(%x, %x) = %d, %t", at, n, got, ok)
			}
			if m.Reach(at, n) {
				t.Errorf("Reach(%x, %x)", at, n)
			}
		}
	}
	for _, at := range places(40) {
		for _, n := range []int{math.MinInt, -1, 0, 1, 32, most, most + 1, math.MaxInt} {
			if got := m.Read(at, n); len(got) != 0 {
				t.Errorf("Read(%d, %d) = %x", at, n, got)
			}
			m.Copy(at, n, 32)
			m.Copy(n, at, 32)
			m.Copy(0, at, n)
		}
		m.Write(at, some(1, 40))
		m.Write(at, nil)
		m.SetWord(at, api.Word{1})
		if got := m.Word(at); got != (api.Word{}) {
			t.Errorf("Word(%d) = %x", at, got)
		}
	}
}

func TestExamples(t *testing.T) {
	m := mem.New()
	if got, ok := m.Cost(small(31), small(2)); got != 6 || !ok {
		t.Errorf("Cost(31, 2) = %d, %t", got, ok)
	}
	if !m.Reach(small(31), small(2)) || m.Len() != 64 {
		t.Errorf("Reach(31, 2): %d bytes", m.Len())
	}
	if got := mem.Price(1024); got != 5120 {
		t.Errorf("Price(1024) = %d", got)
	}
}
