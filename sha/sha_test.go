package sha_test

import (
	"bytes"
	"crypto/sha256"
	"encoding/binary"
	"encoding/hex"
	"math/big"
	"math/rand/v2"
	"strings"
	"testing"

	"smithy/api"
	"smithy/sha"
)

const piece = 64

var rootEight, rootConstants = numbersOfRoots()

// some are n bytes that look random and are the same in each run.
func some(seed, n int) []byte {
	r := rand.New(rand.NewPCG(uint64(seed), uint64(n)))
	b := make([]byte, n)
	for i := range b {
		b[i] = byte(r.Uint32())
	}
	return b
}

// What follows, up to modelSum, is the chapter's text, step by step; TestModel
// holds it against the standard library.

func primes(n int) []int64 {
	var l []int64
	for x := int64(2); len(l) < n; x++ {
		if big.NewInt(x).ProbablyPrime(0) {
			l = append(l, x)
		}
	}
	return l
}

// cubeRoot is the greatest number whose cube is at most x.
func cubeRoot(x *big.Int) *big.Int {
	root := new(big.Int)
	for i := x.BitLen() / 3; i >= 0; i-- {
		more := new(big.Int).SetBit(root, i, 1)
		if new(big.Int).Exp(more, big.NewInt(3), nil).Cmp(x) <= 0 {
			root = more
		}
	}
	return root
}

// numbersOfRoots are the first eight numbers and the constants: roots of primes
// that are put up by 32 bits, without what is ahead of the point.
func numbersOfRoots() (eight [8]uint32, constants [64]uint32) {
	for i, p := range primes(8) {
		root := new(big.Int).Lsh(big.NewInt(p), 2*32)
		eight[i] = uint32(root.Sqrt(root).Uint64())
	}
	for i, p := range primes(64) {
		constants[i] = uint32(cubeRoot(new(big.Int).Lsh(big.NewInt(p), 3*32)).Uint64())
	}
	return eight, constants
}

// turns are a number's turns by all of n, xor each other.
func turns(x uint32, n ...int) uint32 {
	var all uint32
	for _, k := range n {
		all ^= x>>k | x<<(32-k)
	}
	return all
}

func textOf(b []byte) []byte {
	text := append(bytes.Clone(b), 128)
	for len(text)%piece != 56 {
		text = append(text, 0)
	}
	return binary.BigEndian.AppendUint64(text, uint64(len(b))*8)
}

func madeOf(b []byte) [64]uint32 {
	var l [64]uint32
	for i := range 16 {
		l[i] = binary.BigEndian.Uint32(b[4*i:])
	}
	for i := 16; i < 64; i++ {
		a, b := l[i-15], l[i-2]
		l[i] = l[i-16] + l[i-7] + (turns(a, 7, 18) ^ a/8) + (turns(b, 17, 19) ^ b/1024)
	}
	return l
}

// chosen has of f where e has a 1 and of g where e has a 0.
func chosen(e, f, g uint32) uint32 {
	var l uint32
	for i := range 32 {
		if e>>i&1 == 1 {
			l |= f & (1 << i)
		} else {
			l |= g & (1 << i)
		}
	}
	return l
}

// most has what two at least of a, b and c have.
func most(a, b, c uint32) uint32 {
	var l uint32
	for i := range 32 {
		if a>>i&1+b>>i&1+c>>i&1 >= 2 {
			l |= 1 << i
		}
	}
	return l
}

func turned(eight [8]uint32, numbers, constants [64]uint32) [8]uint32 {
	s := eight
	for i := range 64 {
		t := s[7] + turns(s[4], 6, 11, 25) + chosen(s[4], s[5], s[6]) + constants[i] + numbers[i]
		u := turns(s[0], 2, 13, 22) + most(s[0], s[1], s[2])
		s = [8]uint32{t + u, s[0], s[1], s[2], s[3] + t, s[4], s[5], s[6]}
	}
	for i := range s {
		s[i] += eight[i]
	}
	return s
}

func sumWith(b []byte, eight [8]uint32, constants [64]uint32) api.Hash {
	for text := textOf(b); len(text) > 0; text = text[piece:] {
		eight = turned(eight, madeOf(text[:piece]), constants)
	}
	var h api.Hash
	for i, x := range eight {
		binary.BigEndian.PutUint32(h[4*i:], x)
	}
	return h
}

func modelSum(b []byte) api.Hash { return sumWith(b, rootEight, rootConstants) }

func TestModel(t *testing.T) {
	for n := range 3*piece + 3 {
		b := some(n, n)
		if got, want := modelSum(b), api.Hash(sha256.Sum256(b)); got != want {
			t.Fatalf("%d bytes: %x, want %x", n, got, want)
		}
	}
}

func TestRoots(t *testing.T) {
	eight := [8]uint32{
		0x6a09e667, 0xbb67ae85, 0x3c6ef372, 0xa54ff53a, 0x510e527f, 0x9b05688c, 0x1f83d9ab, 0x5be0cd19,
	}
	if rootEight != eight {
		t.Errorf("the square roots make %08x", rootEight)
	}
	for i, want := range map[int]uint32{0: 0x428a2f98, 1: 0x71374491, 31: 0x14292967, 62: 0xbef9a3f7, 63: 0xc67178f2} {
		if rootConstants[i] != want {
			t.Errorf("the cube roots make %08x at %d", rootConstants[i], i)
		}
	}
}

// The first eight numbers and the constants are seen by what they make of bytes
// alone: with those of the roots the hash is as it must be, and with another
// bit in any of them it is not.
func TestP61NumbersOfRoots(t *testing.T) {
	for _, b := range [][]byte{nil, []byte("abc"), some(1, 300)} {
		got := sha.Sum(b)
		if want := modelSum(b); got != want {
			t.Errorf("Sum of %d bytes = %x, want %x", len(b), got, want)
		}
		for bit := range 32 {
			for i := range rootConstants {
				other := rootConstants
				other[i] ^= 1 << bit
				if got == sumWith(b, rootEight, other) {
					t.Errorf("%d bytes: the bit %d of constant %d is wrong", len(b), bit, i)
				}
			}
			for i := range rootEight {
				other := rootEight
				other[i] ^= 1 << bit
				if got == sumWith(b, other, rootConstants) {
					t.Errorf("%d bytes: the bit %d of number %d is wrong", len(b), bit, i)
				}
			}
		}
	}
}

func checkSum(t *testing.T, b []byte) {
	t.Helper()
	if got, want := sha.Sum(b), modelSum(b); got != want {
		t.Errorf("Sum of %d bytes, %.100x = %x, want %x", len(b), b, got, want)
	}
}

func TestP61KnownHashes(t *testing.T) {
	for _, x := range []struct{ text, want string }{
		{"", "e3b0c44298fc1c149afbf4c8996fb92427ae41e4649b934ca495991b7852b855"},
		{"a", "ca978112ca1bbdcafac231b39a23dc4da786eff8147c4e72b9807785afee48bb"},
		{"hello", "2cf24dba5fb0a30e26e83b2ac5b9e29e1b161e5c1fa7425e73043362938b9824"},
		{"The quick brown fox jumps over the lazy dog", "d7a8fbb307d7809469ca9abcb0082e4f8d5651e46d3cdb762d02d0bf37c9e592"},
		{"abcdbcdecdefdefgefghfghighijhijkijkljklmklmnlmnomnopnopq", "248d6a61d20638b8e5c026930c3e6039a33ce45964ff2167f6ecedd419db06c1"},
		{
			"abcdefghbcdefghicdefghijdefghijkefghijklfghijklmghijklmnhijklmnoijklmnopjklmnopqklmnopqrlmnopqrsmnopqrstnopqrstu",
			"cf5b16a778af8380036ce59e7b0492370b249b11e8f07a51afac45037afee9d1",
		},
		{"\x00", "6e340b9cffb37a989ca544e6bb780a2c78901d3fb33738768511a30617afa01d"},
		{"\x80", "76be8b528d0075f7aae98d6fa57a6d3c83ae480a8469e668d7b0af968995ac71"},
		{"\xff", "a8100ae6aa1940d0b663bb31cd466142ebbdbd5187131b92d93818987832eb89"},
		{strings.Repeat("\x00", 32), "66687aadf862bd776c8fc18b8e9f8e20089714856ee233b3902a591d0d5f2925"},
		{strings.Repeat("\x00", 64), "f5a5fd42d16a20302798ef6ed309979b43003d2320d9f0e8ea9831a92759fb4b"},
		{strings.Repeat("\xff", 32), "af9613760f72635fbdb44a5a0a63c39f12af30f950a6ee5c971be188e89c4051"},
		{strings.Repeat("a", 1000000), "cdc76e5c9914fb9281a1c7e284d73e67f1809a48a497200e046d39ccc7112cd0"},
	} {
		h := sha.Sum([]byte(x.text))
		if got := hex.EncodeToString(h[:]); got != x.want {
			t.Errorf("Sum(%.40q), %d bytes = %s, want %s", x.text, len(x.text), got, x.want)
		}
	}
}

func TestP61NoBytes(t *testing.T) {
	for _, b := range [][]byte{nil, {}, some(1, 300)[:0], some(1, 300)[300:]} {
		checkSum(t, b)
	}
}

func TestP61Lengths(t *testing.T) {
	for n := range 5*piece + 2 {
		checkSum(t, some(n, n))
		checkSum(t, make([]byte, n))
		checkSum(t, bytes.Repeat([]byte{255}, n))
	}
}

// From 56 bytes of the last piece on, the count of bits needs one more piece.
func TestP61WherePiecesEnd(t *testing.T) {
	for _, whole := range []int{piece, 2 * piece, 3 * piece} {
		for n := whole - 10; n <= whole+2; n++ {
			b := some(whole, n)
			for i := range b {
				for bit := range 8 {
					b[i] ^= 1 << bit
					checkSum(t, b)
					b[i] ^= 1 << bit
				}
			}
		}
	}
}

// Bytes that end as a text does, or that are the text of others whole, have a
// text of their own behind them.
func TestP61BytesLikeTheirText(t *testing.T) {
	for _, n := range []int{0, 1, 3, 54, 55, 56, 57, 62, 63, 64, 65, 119, 120, 127, 128} {
		text := textOf(some(n, n))
		for end := n; end <= len(text); end++ {
			checkSum(t, text[:end])
			if end > n && sha.Sum(text[:end]) == sha.Sum(text[:n]) {
				t.Errorf("%d bytes are hashed like %d of them", end, n)
			}
		}
	}
}

func TestP61OrdinaryBytes(t *testing.T) {
	for i := range 2000 {
		checkSum(t, some(i, i%400))
	}
}

func TestP61LengthsCount(t *testing.T) {
	for _, x := range []byte{0, 128, 255} {
		seen := map[api.Hash]int{}
		b := bytes.Repeat([]byte{x}, 4*piece+2)
		for n := range b {
			h := sha.Sum(b[:n])
			if before, ok := seen[h]; ok {
				t.Errorf("%d and %d bytes %d are hashed alike", before, n, x)
			}
			seen[h] = n
		}
	}
}

// The count has its next byte at 32 bytes, at 2^13, at 2^21 and at 2^29.
func TestP61ManyBytes(t *testing.T) {
	b := make([]byte, 1<<29+1)
	copy(b, some(1, 1<<21+200))
	for at := 5; at <= 29; at += 8 {
		for _, n := range []int{1<<at - 1, 1 << at, 1<<at + 1} {
			if at == 29 && n != 1<<at {
				continue // one so long is enough of a wait
			}
			if got, want := sha.Sum(b[:n]), api.Hash(sha256.Sum256(b[:n])); got != want {
				t.Errorf("Sum of %d bytes = %x, want %x", n, got, want)
			}
		}
	}
}

func TestBytesStayAsTheyWere(t *testing.T) {
	for n := range 4 * piece {
		whole := some(n, n+4*piece)
		before := bytes.Clone(whole)
		b := whole[2*piece : 2*piece+n] // with room ahead and behind
		h := sha.Sum(b)
		if !bytes.Equal(whole, before) {
			t.Errorf("%d bytes are changed", n)
		}
		// What stands about the bytes has no say, nor what was hashed before.
		clear(whole[:2*piece])
		clear(whole[2*piece+n:])
		sha.Sum(whole)
		if sha.Sum(b) != h || sha.Sum(bytes.Clone(b)) != h {
			t.Errorf("%d bytes are hashed in two ways", n)
		}
	}
}

func TestExamples(t *testing.T) {
	h := sha.Sum([]byte("abc"))
	if got := hex.EncodeToString(h[:]); got != "ba7816bf8f01cfea414140de5dae2223b00361a396177a9cb410ff61f20015ad" {
		t.Errorf("Sum of abc = %s", got)
	}
}
