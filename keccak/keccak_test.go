package keccak_test

import (
	"bytes"
	"crypto/sha256"
	"crypto/sha3"
	"encoding/binary"
	"encoding/hex"
	"math/big"
	"strconv"
	"strings"
	"testing"

	"smithy/api"
	"smithy/keccak"
	"smithy/word"
)

const (
	ones  = 1<<64 - 1
	piece = 136
)

var rowConstants = constantsOfRow()

// some are n bytes that look random and are the same in each run.
func some(seed, n int) []byte {
	var b []byte
	for i := 0; len(b) < n; i++ {
		sum := sha256.Sum256([]byte(strconv.Itoa(seed) + " " + strconv.Itoa(i)))
		b = append(b, sum[:]...)
	}
	return b[:n]
}

// someState is a state that looks random and is the same in each run.
func someState(seed int) [25]uint64 {
	var s [25]uint64
	xorInto(&s, some(seed, 200))
	return s
}

// xorInto puts bytes into the lanes, eight a lane.
func xorInto(s *[25]uint64, b []byte) {
	for i := 0; 8*i < len(b); i++ {
		s[i] ^= binary.LittleEndian.Uint64(b[8*i:])
	}
}

// laneBytes are the bytes of all lanes.
func laneBytes(s [25]uint64) []byte {
	var b []byte
	for _, lane := range s {
		b = binary.LittleEndian.AppendUint64(b, lane)
	}
	return b
}

// What follows, up to modelSum, is the chapter's text, step by step; TestModel
// holds it against the standard library.

func rowOfBits() []bool {
	var row []bool
	number := 1
	for range 7 * 24 {
		row = append(row, number%2 == 1)
		number *= 2
		if number >= 256 {
			number ^= 369
		}
	}
	return row
}

func constantsOfRow() [24]uint64 {
	row := rowOfBits()
	var l [24]uint64
	for i := range l {
		for j := range 7 {
			if row[7*i+j] {
				l[i] |= 1 << (1<<j - 1)
			}
		}
	}
	return l
}

func at(x, y int) int { return x%5 + 5*(y%5) }

func up(lane uint64, n int) uint64 {
	for range n % 64 {
		lane = lane<<1 | lane>>63
	}
	return lane
}

func firstStep(s [25]uint64) [25]uint64 {
	var c [5]uint64
	for x := range 5 {
		for y := range 5 {
			c[x] ^= s[at(x, y)]
		}
	}
	for x := range 5 {
		for y := range 5 {
			s[at(x, y)] ^= c[(x+4)%5] ^ up(c[(x+1)%5], 1)
		}
	}
	return s
}

func secondStep(former [25]uint64) [25]uint64 {
	s := [25]uint64{former[0]}
	x, y := 1, 0
	for t := range 24 {
		s[at(y, 2*x+3*y)] = up(former[at(x, y)], (t+1)*(t+2)/2)
		x, y = y, (2*x+3*y)%5
	}
	return s
}

func thirdStep(former [25]uint64) [25]uint64 {
	var s [25]uint64
	for x := range 5 {
		for y := range 5 {
			s[at(x, y)] = former[at(x, y)] ^ (^former[at(x+1, y)] & former[at(x+2, y)])
		}
	}
	return s
}

func turnWith(s [25]uint64, constants [24]uint64) [25]uint64 {
	for i := range 24 {
		s = thirdStep(secondStep(firstStep(s)))
		s[0] ^= constants[i]
	}
	return s
}

func modelTurn(s [25]uint64) [25]uint64 { return turnWith(s, rowConstants) }

// modelSum is the hash if begin is 1; with 6 it would be SHA3-256.
func modelSum(b []byte, begin byte) [32]byte {
	whole := append(bytes.Clone(b), begin)
	for len(whole)%piece != 0 {
		whole = append(whole, 0)
	}
	whole[len(whole)-1] |= 128
	var s [25]uint64
	for ; len(whole) > 0; whole = whole[piece:] {
		xorInto(&s, whole[:piece])
		s = modelTurn(s)
	}
	return [32]byte(laneBytes(s))
}

func TestModel(t *testing.T) {
	for n := range 3*piece + 3 {
		b := some(n, n)
		if got, want := modelSum(b, 6), sha3.Sum256(b); got != want {
			t.Fatalf("%d bytes: %x, want %x", n, got, want)
		}
	}
}

// The constants are seen by what they make of a state alone: with those of the
// row it is as it must be, and with another bit in any of them it is not.
func TestP51Constants(t *testing.T) {
	known := [24]uint64{
		0x0000000000000001, 0x0000000000008082, 0x800000000000808a, 0x8000000080008000,
		0x000000000000808b, 0x0000000080000001, 0x8000000080008081, 0x8000000000008009,
		0x000000000000008a, 0x0000000000000088, 0x0000000080008009, 0x000000008000000a,
		0x000000008000808b, 0x800000000000008b, 0x8000000000008089, 0x8000000000008003,
		0x8000000000008002, 0x8000000000000080, 0x000000000000800a, 0x800000008000000a,
		0x8000000080008081, 0x8000000000008080, 0x0000000080000001, 0x8000000080008008,
	}
	if rowConstants != known {
		t.Errorf("the row makes the constants %016x", rowConstants)
	}
	for seed := range 3 {
		s := someState(seed)
		got := keccak.Turn(s)
		if want := turnWith(s, known); got != want {
			t.Errorf("Turn of state %d = %016x, want %016x", seed, got, want)
		}
		for i := range known {
			for j := range 7 {
				other := known
				other[i] ^= 1 << (1<<j - 1)
				if got == turnWith(s, other) {
					t.Errorf("Turn of state %d has the bit 2^%d less 1 of constant %d wrong", seed, j, i)
				}
			}
		}
	}
}

func checkTurn(t *testing.T, name string, s [25]uint64) {
	t.Helper()
	before := s
	got, want := keccak.Turn(s), modelTurn(s)
	if s != before {
		t.Errorf("%s: changed", name)
	}
	for i := range want {
		if got[i] != want[i] {
			t.Errorf("%s: lane %d = %016x, want %016x", name, i, got[i], want[i])
		}
	}
}

func TestP51TurnOfNoughts(t *testing.T) {
	want := [25]uint64{
		0xf1258f7940e1dde7, 0x84d5ccf933c0478a, 0xd598261ea65aa9ee, 0xbd1547306f80494d, 0x8b284e056253d057,
		0xff97a42d7f8e6fd4, 0x90fee5a0a44647c4, 0x8c5bda0cd6192e76, 0xad30a6f71b19059c, 0x30935ab7d08ffc64,
		0xeb5aa93f2317d635, 0xa9a6e6260d712103, 0x81a57c16dbcf555f, 0x43b831cd0347c826, 0x01f22f1a11a5569f,
		0x05e5635a21d9ae61, 0x64befef28cc970f2, 0x613670957bc46611, 0xb87c5a554fd00ecb, 0x8c3ee88a1ccf32c8,
		0x940c7922ae3a2614, 0x1841f924a2c509e4, 0x16f53526e70465c2, 0x75f644e97f30a13b, 0xeaf1ff7b5ceca249,
	}
	if got := keccak.Turn([25]uint64{}); got != want {
		t.Errorf("Turn of noughts = %016x", got)
	}
	checkTurn(t, "noughts", [25]uint64{})
	checkTurn(t, "noughts, turned", want)
}

func TestP51TurnOfSingleBits(t *testing.T) {
	for i := range 25 {
		for bit := range 64 {
			var s [25]uint64
			s[i] = 1 << bit
			checkTurn(t, "bit "+strconv.Itoa(bit)+" of lane "+strconv.Itoa(i), s)
		}
	}
}

func TestP51TurnOfOrdinaryStates(t *testing.T) {
	var all, counted [25]uint64
	for i := range all {
		all[i] = ones
		counted[i] = uint64(i)
	}
	checkTurn(t, "all bits", all)
	checkTurn(t, "0 to 24", counted)
	for i := range 25 {
		without, alone := all, [25]uint64{}
		without[i], alone[i] = 0, ones
		checkTurn(t, "all bits but those of lane "+strconv.Itoa(i), without)
		checkTurn(t, "all bits of lane "+strconv.Itoa(i), alone)
	}
	for i := range 500 {
		checkTurn(t, "state "+strconv.Itoa(i), someState(i))
	}
}

// A chain of states, read at each place: 21 lanes are to be seen at once, and
// the others work on what is seen behind the next turn.
func TestP51TurnAgainstTheLibrary(t *testing.T) {
	const size, places = 168, 200
	first := make([]byte, size)
	copy(first, "a seed")
	first[6] = 0x1f
	first[size-1] ^= 128
	var s [25]uint64
	xorInto(&s, first)
	want := sha3.SumSHAKE128([]byte("a seed"), size*places)
	for i := range places {
		s = keccak.Turn(s)
		if got := laneBytes(s)[:size]; !bytes.Equal(got, want[size*i:size*(i+1)]) {
			t.Fatalf("behind turn %d: %x", i+1, got)
		}
	}
}

// checkSum holds the hash against the model, as bytes and as a word.
func checkSum(t *testing.T, b []byte) {
	t.Helper()
	want := modelSum(b, 1)
	if got := keccak.Sum(b); got != want {
		t.Errorf("Sum of %d bytes, %.100x = %x, want %x", len(b), b, got, want)
	}
	if got := keccak.Word(b); number(got).Cmp(new(big.Int).SetBytes(want[:])) != 0 {
		t.Errorf("Word of %d bytes, %.100x = %x, want that of %x", len(b), b, got, want)
	}
}

// number is a word as a number, by its parts alone.
func number(a api.Word) *big.Int {
	n := new(big.Int)
	for i := 3; i >= 0; i-- {
		n.Lsh(n, 64).Add(n, new(big.Int).SetUint64(a[i]))
	}
	return n
}

func TestP51KnownHashes(t *testing.T) {
	for _, x := range []struct{ text, want string }{
		{"", "c5d2460186f7233c927e7db2dcc703c0e500b653ca82273b7bfad8045d85a470"},
		{"abc", "4e03657aea45a94fc7d47ba826c8d667c0d1e6e33a64a036ec44f58fa12d6c45"},
		{"hello", "1c8aff950685c2ed4bc3174f3472287b56d9517b9c948127319a09a7a36deac8"},
		{"testing", "5f16f4c7f149ac4f9510d9cf8cf384038ad348b3bcdc01915f95de12df9d1b02"},
		{"The quick brown fox jumps over the lazy dog", "4d741b6f1eb29cb2a9b9911c82f56fa8d73b04959d3d9d222895df6c0b28aa15"},
		{"\x80", "56e81f171bcc55a6ff8345e692c0f86e5b48e01b996cadc001622fb5e363b421"},
		{"\xc0", "1dcc4de8dec75d7aab85b567b6ccd41ad312451b948a7413f0a142fd40d49347"},
		{strings.Repeat("\x00", 32), "290decd9548b62a8d60345a988386fc84ba6bc95484008f6362f93160ef3e563"},
		{strings.Repeat("\x00", 64), "ad3228b676f7d3cd4284a5443f17f1962b36e491b30a40b2405849e597ba5fb5"},
	} {
		h := keccak.Sum([]byte(x.text))
		if got := hex.EncodeToString(h[:]); got != x.want {
			t.Errorf("Sum(%q) = %s, want %s", x.text, got, x.want)
		}
		a := keccak.Word([]byte(x.text))
		if got := word.Bytes(a); hex.EncodeToString(got[:]) != x.want {
			t.Errorf("Word(%q) = %x, want %s", x.text, got, x.want)
		}
	}
}

func TestP51NoBytes(t *testing.T) {
	want := api.Word{0x7bfad8045d85a470, 0xe500b653ca82273b, 0x927e7db2dcc703c0, 0xc5d2460186f7233c}
	for _, b := range [][]byte{nil, {}, some(1, 300)[:0], some(1, 300)[300:]} {
		checkSum(t, b)
		if got := keccak.Word(b); got != want {
			t.Errorf("Word of no bytes = %x", got)
		}
	}
}

func TestP51Lengths(t *testing.T) {
	for n := range 5*piece + 2 {
		checkSum(t, some(n, n))
		checkSum(t, make([]byte, n))
		checkSum(t, bytes.Repeat([]byte{255}, n))
	}
}

// About the multiples of 136 all places have a say, each bit of them, and what
// looks like the byte 1, or like the highest bit at the end, is not it.
func TestP51AboutWholePieces(t *testing.T) {
	for _, whole := range []int{piece, 2 * piece, 3 * piece} {
		for n := whole - 2; n <= whole+2; n++ {
			b := some(whole, n)
			for i := range n {
				b[i] ^= 1 << (i % 8)
				checkSum(t, b)
				b[i] ^= 1 << (i % 8)
			}
			for _, last := range []byte{0, 1, 2, 127, 128, 129, 255} {
				b[n-1] = last
				checkSum(t, b)
				b[n-2] = last
				checkSum(t, b)
			}
		}
	}
}

func TestP51LengthsCount(t *testing.T) {
	seen := map[api.Hash]int{}
	b := make([]byte, 3*piece+2)
	for n := range b {
		h := keccak.Sum(b[:n])
		if before, ok := seen[h]; ok {
			t.Errorf("%d and %d noughts are hashed alike", before, n)
		}
		seen[h] = n
	}
}

func TestP51ManyBytes(t *testing.T) {
	b := some(1, 1<<20+7)
	checkSum(t, b)
	checkSum(t, b[:len(b)/piece*piece])
}

func TestBytesStayAsTheyWere(t *testing.T) {
	for _, n := range []int{0, 1, 31, 32, 134, 135, 136, 137, 271, 272, 273, 407, 408, 409} {
		whole := some(n, n+2*piece)
		before := bytes.Clone(whole)
		b := whole[piece : piece+n] // with room ahead and behind
		h, a := keccak.Sum(b), keccak.Word(b)
		if !bytes.Equal(whole, before) {
			t.Errorf("%d bytes are changed", n)
		}
		// The same bytes elsewhere, with others about them, are hashed alike.
		if again := bytes.Clone(b); keccak.Sum(again) != h || keccak.Word(again) != a {
			t.Errorf("%d bytes are hashed in two ways", n)
		}
	}
}

func TestExamples(t *testing.T) {
	h := keccak.Sum(nil)
	if got := hex.EncodeToString(h[:]); got != "c5d2460186f7233c927e7db2dcc703c0e500b653ca82273b7bfad8045d85a470" {
		t.Errorf("Sum of no bytes = %s", got)
	}
}
