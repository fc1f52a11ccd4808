package addr_test

import (
	"bytes"
	"crypto/sha256"
	stdhex "encoding/hex"
	"math"
	"math/big"
	"strconv"
	"strings"
	"testing"

	"smithy/addr"
	"smithy/api"
	"smithy/keccak"
)

const (
	ones = math.MaxUint64
	high = 0xffffffff00000000
)

var (
	topWord    = api.Word{ones, ones, ones, ones}
	topAddress = api.Address(bytes.Repeat([]byte{255}, 20))
)

// some are n bytes that look random and are the same in each run.
func some(seed, n int) []byte {
	var b []byte
	for i := 0; len(b) < n; i++ {
		sum := sha256.Sum256([]byte(strconv.Itoa(seed) + " " + strconv.Itoa(i)))
		b = append(b, sum[:]...)
	}
	return b[:n]
}

func someAddress(seed int) api.Address { return api.Address(some(seed, 20)) }

func someWord(seed int) api.Word { return wordOf([32]byte(some(seed, 32))) }

// at is the address of 40 digits.
func at(t *testing.T, digits string) api.Address {
	t.Helper()
	return api.Address(digitBytes(t, digits, 20))
}

// wordAt is the word of 64 digits.
func wordAt(t *testing.T, digits string) api.Word {
	t.Helper()
	return wordOf([32]byte(digitBytes(t, digits, 32)))
}

func digitBytes(t *testing.T, digits string, size int) []byte {
	t.Helper()
	b, err := stdhex.DecodeString(digits)
	if err != nil || len(b) != size {
		t.Fatalf("%s: %d bytes, %v, want %d", digits, len(b), err, size)
	}
	return b
}

// addresses are that of 0 and that of all bits, both with one byte otherwise at
// each place, and ordinary ones.
func addresses() []api.Address {
	l := []api.Address{{}, topAddress}
	for i := range 20 {
		for _, x := range []byte{1, 127, 128, 255} {
			set, unset := api.Address{}, topAddress
			set[i], unset[i] = x, 255-x
			l = append(l, set, unset)
		}
		l = append(l, someAddress(i))
	}
	return l
}

// What follows, up to modelCreate2, is the chapter's section 'Words'; it leans
// on no other layer but the hash.

// numberOf is a word as a number, by its parts alone.
func numberOf(a api.Word) *big.Int {
	n := new(big.Int)
	for i := 3; i >= 0; i-- {
		n.Lsh(n, 64).Add(n, new(big.Int).SetUint64(a[i]))
	}
	return n
}

func bytesOf(a api.Word) [32]byte {
	var b [32]byte
	numberOf(a).FillBytes(b[:])
	return b
}

func wordOf(b [32]byte) api.Word {
	var a api.Word
	for i, x := range b {
		a[(31-i)/8] |= uint64(x) << (8 * ((31 - i) % 8))
	}
	return a
}

// nonceWriting is layer 7's writing of a number of 64 bits.
func nonceWriting(nonce uint64) []byte {
	b := new(big.Int).SetUint64(nonce).Bytes()
	if len(b) == 1 && b[0] < 128 {
		return b
	}
	return append([]byte{128 + byte(len(b))}, b...)
}

func modelCreate(a api.Address, nonce uint64) api.Address {
	n := nonceWriting(nonce)
	b := append([]byte{192 + 21 + byte(len(n)), 128 + 20}, a[:]...)
	h := keccak.Sum(append(b, n...))
	return api.Address(h[12:])
}

func modelCreate2(a api.Address, salt api.Word, code []byte) api.Address {
	var b [1 + 20 + 32 + 32]byte
	s, c := bytesOf(salt), keccak.Sum(code)
	b[0] = 255
	copy(b[1:], a[:])
	copy(b[21:], s[:])
	copy(b[53:], c[:])
	h := keccak.Sum(b[:])
	return api.Address(h[12:])
}

func checkWord(t *testing.T, a api.Address) {
	t.Helper()
	if got := addr.Word(a); numberOf(got).Cmp(new(big.Int).SetBytes(a[:])) != 0 {
		t.Errorf("Word(%x) = %x", a, got)
	}
}

func checkOf(t *testing.T, a api.Word) {
	t.Helper()
	b := bytesOf(a)
	if got, want := addr.Of(a), api.Address(b[12:]); got != want {
		t.Errorf("Of(%x) = %x, want %x", a, got, want)
	}
}

func checkCreate(t *testing.T, a api.Address, nonce uint64) {
	t.Helper()
	if got, want := addr.Create(a, nonce), modelCreate(a, nonce); got != want {
		t.Errorf("Create(%x, %d) = %x, want %x", a, nonce, got, want)
	}
}

func checkCreate2(t *testing.T, a api.Address, salt api.Word, code []byte) {
	t.Helper()
	if got, want := addr.Create2(a, salt, code), modelCreate2(a, salt, code); got != want {
		t.Errorf("Create2(%x, %x, %d bytes, %.60x) = %x, want %x", a, salt, len(code), code, got, want)
	}
}

// checkLess holds both orders, of an a that is less than b.
func checkLess(t *testing.T, a, b api.Address) {
	t.Helper()
	if got := addr.Compare(a, b); got != -1 {
		t.Errorf("Compare(%x, %x) = %d, want -1", a, b, got)
	}
	if got := addr.Compare(b, a); got != 1 {
		t.Errorf("Compare(%x, %x) = %d, want 1", b, a, got)
	}
}

func checkPrecompile(t *testing.T, a api.Address, want int) {
	t.Helper()
	if got := addr.Precompile(a); got != want {
		t.Errorf("Precompile(%x) = %d, want %d", a, got, want)
	}
}

func TestP81Word(t *testing.T) {
	for _, a := range addresses() {
		checkWord(t, a)
	}
	for _, x := range []struct {
		a    api.Address
		want api.Word
	}{
		{api.Address{}, api.Word{}},
		{api.Address{19: 5}, api.Word{5}},
		{api.Address{12: 1}, api.Word{1 << 56}},
		{api.Address{11: 1}, api.Word{0, 1}},
		{api.Address{4: 1}, api.Word{0, 1 << 56}},
		{api.Address{3: 1}, api.Word{0, 0, 1}},
		{api.Address{0: 255}, api.Word{0, 0, 0xff000000}},
		{topAddress, api.Word{ones, ones, 1<<32 - 1}},
	} {
		if got := addr.Word(x.a); got != x.want {
			t.Errorf("Word(%x) = %x, want %x", x.a, got, x.want)
		}
	}
	for i := range 500 {
		checkWord(t, someAddress(i))
	}
}

// What stands in a word's first 12 bytes has no say.
func TestP81OfWordsBeyondAddresses(t *testing.T) {
	for _, x := range []struct {
		a    api.Word
		want api.Address
	}{
		{api.Word{}, api.Address{}},
		{topWord, topAddress},
		{api.Word{5, 0, 0, 1 << 63}, api.Address{19: 5}},
		{api.Word{0, 0, 1 << 32}, api.Address{}},
		{api.Word{0, 0, 1 << 31}, api.Address{0: 128}},
		{api.Word{0, 0, high, ones}, api.Address{}},
		{api.Word{0, 0, ones, ones}, api.Address{255, 255, 255, 255}},
	} {
		if got := addr.Of(x.a); got != x.want {
			t.Errorf("Of(%x) = %x, want %x", x.a, got, x.want)
		}
	}
	for i := range 32 {
		for _, x := range []byte{1, 127, 128, 255} {
			set, unset := [32]byte{}, bytesOf(topWord)
			set[i], unset[i] = x, 255-x
			checkOf(t, wordOf(set))
			checkOf(t, wordOf(unset))
		}
	}
	for i := range 500 {
		checkOf(t, someWord(i))
	}
}

func TestP82ThereAndBack(t *testing.T) {
	l := addresses()
	for i := range 500 {
		l = append(l, someAddress(i))
	}
	for _, a := range l {
		w := addr.Word(a)
		if got := addr.Of(w); got != a {
			t.Errorf("Of(Word(%x)) = %x", a, got)
		}
		// With the first 12 bytes set it is the same address, and with them cut
		// off the same word.
		w[2] |= high
		w[3] = ones
		if got := addr.Of(w); got != a {
			t.Errorf("Of(%x) = %x, want %x", w, got, a)
		}
		if got := addr.Word(addr.Of(w)); got != addr.Word(a) {
			t.Errorf("Word(Of(%x)) = %x, want %x", w, got, addr.Word(a))
		}
	}
}

// nonces are those about which a number's writing grows, those of each number
// of bytes, and the greatest.
func nonces() []uint64 {
	l := []uint64{0, 1, 2, 9, 126, 127, 128, 129, 254, 255, 256, 257, ones - 1, ones}
	for n := range 64 {
		power := uint64(1) << n
		l = append(l, power-1, power, power+1, ^power)
	}
	for n := range 8 {
		l = append(l, 0x0102030405060708>>(8*n), 255<<(8*n), 127<<(8*n), 128<<(8*n))
	}
	return l
}

func TestP81CreateAtAllNonces(t *testing.T) {
	for _, nonce := range nonces() {
		checkCreate(t, api.Address{}, nonce)
		checkCreate(t, topAddress, nonce)
		checkCreate(t, someAddress(1), nonce)
	}
	for nonce := range uint64(2000) {
		checkCreate(t, someAddress(2), nonce)
	}
}

func TestP81CreateByAllAccounts(t *testing.T) {
	for _, a := range addresses() {
		for _, nonce := range []uint64{0, 1, 127, 128, 255, 256, ones} {
			checkCreate(t, a, nonce)
		}
	}
	for i := range 500 {
		checkCreate(t, someAddress(i), uint64(i)<<(i%64))
	}
}

// An account's first contracts, whose addresses are known without the model.
func TestP81KnownCreations(t *testing.T) {
	for _, x := range []struct {
		a     string
		nonce uint64
		want  string
	}{
		{"6ac7ea33f8831ea9dcc53393aaa88b25a785dbf0", 0, "cd234a471b72ba2f1ccf0a70fcaba648a5eecd8d"},
		{"6ac7ea33f8831ea9dcc53393aaa88b25a785dbf0", 1, "343c43a37d37dff08ae8c4a11544c718abb4fcf8"},
		{"6ac7ea33f8831ea9dcc53393aaa88b25a785dbf0", 2, "f778b86fa74e846c4f0a1fbd1335fe81c00a0c91"},
		{"6ac7ea33f8831ea9dcc53393aaa88b25a785dbf0", 3, "fffd933a0bc612844eaf0c6fe3e5b8e9b6c1d19c"},
	} {
		if got := addr.Create(at(t, x.a), x.nonce); got != at(t, x.want) {
			t.Errorf("Create(%s, %d) = %x, want %s", x.a, x.nonce, got, x.want)
		}
	}
}

// No two accounts, and no two nonces, make the same contract.
func TestP81CreationsDiffer(t *testing.T) {
	seen := map[api.Address]string{}
	for _, a := range addresses() {
		for _, nonce := range nonces() {
			made := addr.Create(a, nonce)
			by := stdhex.EncodeToString(a[:]) + " and " + strconv.FormatUint(nonce, 10)
			// Some of the nonces stand in their list twice.
			if before, ok := seen[made]; ok && before != by {
				t.Fatalf("%x is made by %s, and by %s", made, before, by)
			}
			seen[made] = by
		}
	}
}

// salts are that of 0, that of all bits, and both with one byte otherwise.
func salts() []api.Word {
	l := []api.Word{{}, topWord}
	for i := range 32 {
		for _, x := range []byte{1, 128, 255} {
			set, unset := [32]byte{}, bytesOf(topWord)
			set[i], unset[i] = x, 255-x
			l = append(l, wordOf(set), wordOf(unset))
		}
		l = append(l, someWord(i))
	}
	return l
}

func TestP81Create2WithAllSalts(t *testing.T) {
	for _, salt := range salts() {
		checkCreate2(t, api.Address{}, salt, nil)
		checkCreate2(t, topAddress, salt, []byte{0})
		checkCreate2(t, someAddress(3), salt, some(3, 40))
	}
}

func TestP81Create2ByAllAccounts(t *testing.T) {
	for _, a := range addresses() {
		checkCreate2(t, a, api.Word{}, nil)
		checkCreate2(t, a, topWord, []byte{0})
		checkCreate2(t, a, someWord(4), some(4, 40))
	}
}

// The hash is taken of 136 bytes at a time, so codes about that are of interest.
func TestP81Create2OfAllCodes(t *testing.T) {
	sizes := []int{0, 1, 2, 31, 32, 33, 134, 135, 136, 137, 138, 271, 272, 273, 1000, 4096, 24576, 24577, 49152, 49153}
	for _, n := range sizes {
		for _, code := range [][]byte{make([]byte, n), bytes.Repeat([]byte{255}, n), some(n, n)} {
			checkCreate2(t, api.Address{}, api.Word{}, code)
			checkCreate2(t, someAddress(n), someWord(n), code)
		}
	}
	for x := range 256 {
		checkCreate2(t, someAddress(x), someWord(x), []byte{byte(x)})
	}
	for n := range 300 {
		checkCreate2(t, someAddress(n), someWord(n), some(n, n))
	}
}

func TestP81Create2OfNoCode(t *testing.T) {
	want := at(t, "e33c0c7f7df4809055c3eba6c09cfe4baf1bd9e0")
	for _, code := range [][]byte{nil, {}, make([]byte, 0, 9), some(1, 9)[:0], some(1, 9)[9:]} {
		if got := addr.Create2(api.Address{}, api.Word{}, code); got != want {
			t.Errorf("Create2 of no code = %x, want %x", got, want)
		}
		checkCreate2(t, someAddress(5), someWord(5), code)
	}
}

// The seven examples of EIP-1014.
func TestP81KnownSaltedCreations(t *testing.T) {
	none, beef, beefAhead := strings.Repeat("00", 20), strings.Repeat("00", 16)+"deadbeef", "deadbeef"+strings.Repeat("00", 16)
	nought, cafe := strings.Repeat("00", 32), strings.Repeat("00", 28)+"cafebabe"
	feed := strings.Repeat("00", 12) + "feed" + strings.Repeat("00", 18)
	for _, x := range []struct{ a, salt, code, want string }{
		{none, nought, "\x00", "4d1a2e2bb4f88f0250f26ffff098b0b30b26bf38"},
		{beefAhead, nought, "\x00", "b928f69bb1d91cd65274e3c79d8986362984fda3"},
		{beefAhead, feed, "\x00", "d04116cdd17bebe565eb2422f2497e06cc1c9833"},
		{none, nought, "\xde\xad\xbe\xef", "70f2b2914a2a4b783faefb75f459a580616fcb5e"},
		{beef, cafe, "\xde\xad\xbe\xef", "60f3f640a8508fc6a86d45df051962668e1e8ac7"},
		{beef, cafe, strings.Repeat("\xde\xad\xbe\xef", 11), "1d8bfdc5d46dc4f61d6b6115972536ebe6a8854c"},
		{none, nought, "", "e33c0c7f7df4809055c3eba6c09cfe4baf1bd9e0"},
	} {
		if got := addr.Create2(at(t, x.a), wordAt(t, x.salt), []byte(x.code)); got != at(t, x.want) {
			t.Errorf("Create2(%s, %s, %x) = %x, want %s", x.a, x.salt, x.code, got, x.want)
		}
	}
}

func TestCodeStaysAsItWas(t *testing.T) {
	for _, n := range []int{0, 1, 31, 32, 33, 135, 136, 137, 272, 5000} {
		whole := some(n, n+400)
		before := bytes.Clone(whole)
		code := whole[200 : 200+n] // with room ahead and behind
		first := addr.Create2(someAddress(n), someWord(n), code)
		if !bytes.Equal(whole, before) {
			t.Errorf("%d bytes are changed", n)
		}
		// The same code elsewhere makes the same address, and changing what was
		// handed in changes nothing that was answered.
		again := bytes.Clone(code)
		clear(whole)
		if got := addr.Create2(someAddress(n), someWord(n), again); got != first {
			t.Errorf("%d bytes make %x, and %x", n, first, got)
		}
	}
}

// At each place, whatever stands ahead of it and behind: bytes count without a
// sign, the first difference decides, and what is behind it does not.
func TestP81CompareAtEachPlace(t *testing.T) {
	pairs := [][2]byte{{0, 1}, {0, 127}, {0, 128}, {0, 255}, {1, 2}, {126, 127}, {127, 128}, {128, 129}, {1, 255}, {127, 255}, {128, 255}, {254, 255}}
	for i := range 20 {
		for _, p := range pairs {
			for seed := range 5 {
				a := someAddress(seed)
				b := a
				a[i], b[i] = p[0], p[1]
				checkLess(t, a, b)
				for j := i + 1; j < 20; j++ {
					a[j], b[j] = 255, 0
				}
				checkLess(t, a, b)
			}
			var a, b api.Address
			a[i], b[i] = p[0], p[1]
			checkLess(t, a, b)
		}
	}
}

func TestP81CompareOfEqualOnes(t *testing.T) {
	for _, a := range addresses() {
		b := a
		if got := addr.Compare(a, b); got != 0 {
			t.Errorf("Compare(%x, %x) = %d, want 0", a, b, got)
		}
	}
}

func TestP81CompareAsNumbers(t *testing.T) {
	l := addresses()
	for _, a := range l {
		for _, b := range l {
			want := new(big.Int).SetBytes(a[:]).Cmp(new(big.Int).SetBytes(b[:]))
			if got := addr.Compare(a, b); got != want {
				t.Errorf("Compare(%x, %x) = %d, want %d", a, b, got, want)
			}
		}
	}
}

func TestP81PrecompileOfNumbers(t *testing.T) {
	for n := range 256 {
		want := 0
		if 1 <= n && n <= 9 {
			want = n
		}
		checkPrecompile(t, api.Address{19: byte(n)}, want)
	}
	for n := 256; n < 1<<16; n++ {
		checkPrecompile(t, api.Address{18: byte(n >> 8), 19: byte(n)}, 0)
	}
	checkPrecompile(t, topAddress, 0)
}

// A built-in contract's number, with another byte set ahead of it, is none.
func TestP81PrecompileWithMoreAhead(t *testing.T) {
	for n := range byte(11) {
		for i := range 19 {
			for _, x := range []byte{1, 5, 127, 128, 255} {
				a := api.Address{19: n}
				a[i] = x
				checkPrecompile(t, a, 0)
			}
		}
		a := topAddress
		a[19] = n
		checkPrecompile(t, a, 0)
	}
	for i := range 19 {
		for n := range byte(10) {
			var a api.Address
			a[i] = n
			checkPrecompile(t, a, 0)
		}
	}
}

func TestExamples(t *testing.T) {
	a := at(t, "6ac7ea33f8831ea9dcc53393aaa88b25a785dbf0")
	if got := addr.Create(a, 0); got != at(t, "cd234a471b72ba2f1ccf0a70fcaba648a5eecd8d") {
		t.Errorf("Create(%x, 0) = %x", a, got)
	}
	if got := addr.Create2(api.Address{}, api.Word{}, []byte{0}); got != at(t, "4d1a2e2bb4f88f0250f26ffff098b0b30b26bf38") {
		t.Errorf("Create2(0, 0, 0x00) = %x", got)
	}
}
