package mem_test

import (
	"bytes"
	"math"
	"math/big"
	"math/rand/v2"
	"testing"

	"smithy/api"
	"smithy/mem"
)

const (
	ones = math.MaxUint64
	most = 1 << 22 // bytes of a memory
)

// some are n bytes that look random, none of which is 0, the same in each run.
func some(seed, n int) []byte {
	r := rand.NewPCG(uint64(seed), uint64(n))
	b := make([]byte, n)
	for i := range b {
		b[i] = byte(r.Uint64()>>56) | 1
	}
	return b
}

func small(n int) api.Word { return api.Word{uint64(n)} }

func long(n int) *big.Int { return big.NewInt(int64(n)) }

func two(n int) *big.Int { return new(big.Int).Lsh(long(1), uint(n)) }

// number is a word as a number, worked out from its parts alone.
func number(a api.Word) *big.Int {
	n := new(big.Int)
	for i := 3; i >= 0; i-- {
		n.Lsh(n, 64)
		n.Or(n, new(big.Int).SetUint64(a[i]))
	}
	return n
}

// wordOf is the word whose bytes these are, the highest first, as many as there
// may be.
func wordOf(b []byte) api.Word {
	var a api.Word
	for i := range b {
		a[i/8] |= uint64(b[len(b)-1-i]) << (8 * (i % 8))
	}
	return a
}

// bytesOf are a word's 32 bytes.
func bytesOf(a api.Word) []byte {
	b := make([]byte, 32)
	number(a).FillBytes(b)
	return b
}

// modelPrice is the price as the chapter's section 'Words' says.
func modelPrice(w *big.Int) uint64 {
	if w.Cmp(two(32)) > 0 {
		return ones
	}
	square := new(big.Int).Mul(w, w)
	square.Div(square, long(512))
	return square.Add(square, new(big.Int).Mul(w, long(3))).Uint64()
}

// model is a memory as the chapter says, a byte at a time.
type model []byte

// end is the length behind reaching some bytes, and whether it isn't refused.
func (m model) end(at, n api.Word) (int, bool) {
	if number(n).Sign() == 0 {
		return len(m), true
	}
	length := new(big.Int).Add(number(at), number(n))
	length.Add(length, long(31)).Div(length, long(32)).Mul(length, long(32))
	if length.Cmp(long(most)) > 0 {
		return 0, false
	}
	return max(len(m), int(length.Int64())), true
}

func (m model) cost(at, n api.Word) (uint64, bool) {
	length, ok := m.end(at, n)
	if !ok {
		return 0, false
	}
	return modelPrice(long(length/32)) - modelPrice(long(len(m)/32)), true
}

func (m *model) reach(at, n api.Word) bool {
	length, ok := m.end(at, n)
	for ok && len(*m) < length {
		*m = append(*m, 0)
	}
	return ok
}

// has tells whether a place behind at is one of its own.
func (m model) has(at, behind int) bool {
	return at >= 0 && uint64(at)+uint64(behind) < uint64(len(m))
}

func (m model) read(at, n int) []byte {
	if at < 0 || n < 0 || n > most {
		return nil
	}
	var b []byte
	for i := range n {
		var x byte
		if m.has(at, i) {
			x = m[at+i]
		}
		b = append(b, x)
	}
	return b
}

func (m model) write(at int, b []byte) {
	for i, x := range b {
		if m.has(at, i) {
			m[at+i] = x
		}
	}
}

// copy writes what is read, but for what lies beyond any memory that long.
func (m model) copy(to, from, n int) {
	if n <= most {
		m.write(to, m.read(from, min(n, len(m))))
	}
}

// filled is a memory that reaches n bytes, and as a model; none of its bytes is 0.
func filled(t *testing.T, seed, n int) (*mem.Memory, model) {
	t.Helper()
	m := mem.New()
	length := (n + 31) / 32 * 32
	step := max(32, length/8/32*32) // not all at once, so that there may be spare room
	for reached := 0; reached < length; {
		reached = min(reached+step, length)
		if !m.Reach(small(reached-1), small(1)) {
			t.Fatalf("%d bytes are refused", reached)
		}
	}
	m.Write(0, some(seed, length)) // not the model's own bytes
	want := model(some(seed, length))
	check(t, m, want, "filled with "+long(n).String())
	return m, want
}

// check tells whether a memory is the model, byte by byte, and has noughts behind.
func check(t *testing.T, m *mem.Memory, want model, row string) {
	t.Helper()
	if m.Len() != len(want) {
		t.Fatalf("%s: length %d, want %d", row, m.Len(), len(want))
	}
	if got := m.Read(0, len(want)); !bytes.Equal(got, want) {
		t.Fatalf("%s: %x, want %x", row, got, []byte(want))
	}
	if got := m.Read(len(want), 40); !bytes.Equal(got, make([]byte, 40)) {
		t.Fatalf("%s: %x behind its length", row, got)
	}
}

// words are places and numbers of bytes of interest, beyond any memory too.
func words() []api.Word {
	l := []api.Word{
		{}, {1}, {2}, {30}, {31}, {32}, {33}, {63}, {64}, {65}, {95}, {96}, {97}, {1000}, {1023}, {1024}, {1025},
		{most/2 - 1}, {most / 2}, {most/2 + 1}, {most - 65}, {most - 64}, {most - 63}, {most - 33}, {most - 32}, {most - 31},
		{most - 2}, {most - 1}, {most}, {most + 1}, {most + 31}, {most + 32}, {2 * most},
		{1<<31 - 1}, {1 << 31}, {1<<32 - 1}, {1 << 32}, {1<<32 + 1}, {1<<63 - 1}, {1 << 63}, {1<<63 + 1},
		{ones - 63}, {ones - 32}, {ones - 31}, {ones - 30}, {ones - 1}, {ones},
		{0, 1}, {1, 1}, {32, 1}, {most, 1}, {0, 0, 1}, {1, 0, 1}, {0, 0, 0, 1}, {1, 0, 0, 1}, {32, 1, 1, 1},
		{0, 0, 0, 1 << 63}, {1, 0, 0, 1 << 63}, {32, 0, 0, 1 << 63}, {ones, ones, ones, 1<<63 - 1},
		{0, ones, ones, ones}, {1, ones, ones, ones}, {ones - 63, ones, ones, ones}, {ones - 32, ones, ones, ones},
		{ones - 31, ones, ones, ones}, {ones - 30, ones, ones, ones}, {ones - 1, ones, ones, ones}, {ones, ones, ones, ones},
	}
	for n := 70; n < 256; n += 31 {
		l = append(l, wordOf(two(n).Bytes()))
	}
	return l
}

// far are ints that are no place of a memory.
func far() []int {
	return []int{
		math.MinInt, math.MinInt + 1, math.MinInt + 31, math.MinInt32, -most, -33, -32, -31, -2, -1,
		most, most + 1, math.MaxInt32, math.MaxInt - most, math.MaxInt - 32, math.MaxInt - 31, math.MaxInt - 1, math.MaxInt,
	}
}

// near are the ints from 0 to somewhat behind a memory's length.
func near(length int) []int {
	var l []int
	for n := range length + 35 {
		l = append(l, n)
	}
	return l
}

// places are ints of interest for a memory of some length.
func places(length int) []int { return append(far(), near(length)...) }
