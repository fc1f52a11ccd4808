package hex_test

import (
	"bytes"
	"crypto/sha256"
	stdhex "encoding/hex"
	"math/big"
	"regexp"
	"strconv"
	"strings"
	"testing"

	"smithy/api"
	"smithy/hex"
	"smithy/word"
)

const ones = 1<<64 - 1

var (
	top = api.Word{ones, ones, ones, ones}

	bytesForm    = regexp.MustCompile(`\A0x([0-9a-fA-F][0-9a-fA-F])*\z`)
	quantityForm = regexp.MustCompile(`\A0x(0|[1-9a-fA-F][0-9a-fA-F]*)\z`)
)

// some are n bytes that look random and are the same in each run.
func some(seed, n int) []byte {
	var b []byte
	for i := 0; len(b) < n; i++ {
		sum := sha256.Sum256([]byte(strconv.Itoa(seed) + " " + strconv.Itoa(i)))
		b = append(b, sum[:]...)
	}
	return b[:n]
}

// wordsOfAllLengths are words around each power of 2, and some of each number
// of bytes.
func wordsOfAllLengths() []api.Word {
	l := []api.Word{{}, top}
	for n := range uint(256) {
		power := word.Shl(word.Of(1), n)
		l = append(l, power, word.Sub(power, word.Of(1)), word.Not(power), word.From(some(int(n), int(n/8)+1)))
	}
	return l
}

// addresses are some with noughts ahead, behind and throughout.
func addresses() []api.Address {
	l := []api.Address{{}, {0: 1}, {19: 1}, {0: 255, 19: 255}, api.Address(bytes.Repeat([]byte{255}, 20))}
	for i := range 50 {
		l = append(l, api.Address(some(i, 20)))
	}
	return l
}

func checkBytes(t *testing.T, s string) {
	t.Helper()
	var want []byte
	wantErr := api.ErrForm
	if bytesForm.MatchString(s) {
		want, _ = stdhex.DecodeString(s[2:])
		wantErr = api.OK
	}
	if got, err := hex.Bytes(s); !bytes.Equal(got, want) || err != wantErr {
		t.Errorf("Bytes(%.200q) = %.100x, %v, want %.100x, %v", s, got, err, want, wantErr)
	}
}

func checkWord(t *testing.T, s string) {
	t.Helper()
	var want api.Word
	wantErr := api.ErrForm
	switch {
	case quantityForm.MatchString(s) && len(s) > 66:
		wantErr = api.ErrLong
	case quantityForm.MatchString(s):
		n, _ := new(big.Int).SetString(s[2:], 16)
		want, wantErr = word.From(n.Bytes()), api.OK
	}
	if got, err := hex.Word(s); got != want || err != wantErr {
		t.Errorf("Word(%.200q) = %x, %v, want %x, %v", s, got, err, want, wantErr)
	}
}

func checkAddress(t *testing.T, s string) {
	t.Helper()
	var want api.Address
	wantErr := api.OK
	switch {
	case !bytesForm.MatchString(s):
		wantErr = api.ErrForm
	case len(s) < 42:
		wantErr = api.ErrShort
	case len(s) > 42:
		wantErr = api.ErrLong
	default:
		b, _ := stdhex.DecodeString(s[2:])
		want = api.Address(b)
	}
	if got, err := hex.Address(s); got != want || err != wantErr {
		t.Errorf("Address(%.200q) = %x, %v, want %x, %v", s, got, err, want, wantErr)
	}
}

func checkAll(t *testing.T, s string) {
	t.Helper()
	checkBytes(t, s)
	checkWord(t, s)
	checkAddress(t, s)
}

func TestP41Text(t *testing.T) {
	for i, x := range []struct {
		b    []byte
		want string
	}{
		{nil, "0x"},
		{[]byte{}, "0x"},
		{[]byte{0}, "0x00"},
		{[]byte{0, 0, 0}, "0x000000"},
		{[]byte{9, 10, 15, 16}, "0x090a0f10"},
		{[]byte{0xab, 0xcd, 0xef}, "0xabcdef"},
		{[]byte{255, 0}, "0xff00"},
	} {
		if got := hex.Text(x.b); got != x.want {
			t.Errorf("%d: Text(%x) = %q, want %q", i, x.b, got, x.want)
		}
	}
	for x := range 256 {
		if got, want := hex.Text([]byte{byte(x)}), "0x"+stdhex.EncodeToString([]byte{byte(x)}); got != want {
			t.Errorf("Text of byte %d = %q, want %q", x, got, want)
		}
	}
	for n := range 100 {
		b := some(n, n)
		if got, want := hex.Text(b), "0x"+stdhex.EncodeToString(b); got != want {
			t.Errorf("Text(%x) = %q", b, got)
		}
	}
}

func TestP41Quantity(t *testing.T) {
	for i, x := range []struct {
		a    api.Word
		want string
	}{
		{api.Word{}, "0x0"},
		{api.Word{1}, "0x1"},
		{api.Word{9}, "0x9"},
		{api.Word{10}, "0xa"},
		{api.Word{15}, "0xf"},
		{api.Word{16}, "0x10"},
		{api.Word{255}, "0xff"},
		{api.Word{0xabcdef}, "0xabcdef"},
		{api.Word{ones}, "0xffffffffffffffff"},
		{api.Word{0, 1}, "0x10000000000000000"},
		{api.Word{0, 0, 0, 1 << 63}, "0x8" + strings.Repeat("0", 63)},
		{api.Word{1, 0, 0, 1 << 56}, "0x1" + strings.Repeat("0", 61) + "1"},
		{top, "0x" + strings.Repeat("f", 64)},
	} {
		if got := hex.Quantity(x.a); got != x.want {
			t.Errorf("%d: Quantity(%x) = %q, want %q", i, x.a, got, x.want)
		}
	}
	for _, a := range wordsOfAllLengths() {
		b := word.Bytes(a)
		if got, want := hex.Quantity(a), "0x"+new(big.Int).SetBytes(b[:]).Text(16); got != want {
			t.Errorf("Quantity(%x) = %q, want %q", a, got, want)
		}
	}
}

func TestP41Bytes(t *testing.T) {
	for i, x := range []struct {
		s, want string
		err     api.Errno
	}{
		{"0x", "", api.OK},
		{"0x00", "\x00", api.OK},
		{"0x0000", "\x00\x00", api.OK},
		{"0xabcdef", "\xab\xcd\xef", api.OK},
		{"0xABCDEF", "\xab\xcd\xef", api.OK},
		{"0xaBCdeF", "\xab\xcd\xef", api.OK},
		{"0x0123456789", "\x01\x23\x45\x67\x89", api.OK},
		{"", "", api.ErrForm},
		{"0", "", api.ErrForm},
		{"x", "", api.ErrForm},
		{"X", "", api.ErrForm},
		{"0X", "", api.ErrForm},
		{"0X00", "", api.ErrForm},
		{"00", "", api.ErrForm},
		{"ff", "", api.ErrForm},
		{"x00", "", api.ErrForm},
		{"1x00", "", api.ErrForm},
		{"00x00", "", api.ErrForm},
		{"0x0x00", "", api.ErrForm},
		{" 0x00", "", api.ErrForm},
		{"0x00 ", "", api.ErrForm},
		{"0x00\n", "", api.ErrForm},
		{"0x00\x00", "", api.ErrForm},
		{"0x 00", "", api.ErrForm},
		{"0x0_0", "", api.ErrForm},
		{"0x+0", "", api.ErrForm},
		{"-0x00", "", api.ErrForm},
		{"0x0", "", api.ErrForm},
		{"0x000", "", api.ErrForm},
		{"0x0g", "", api.ErrForm},
		{"0xg0", "", api.ErrForm},
		{"0x0102030g", "", api.ErrForm},
	} {
		if b, err := hex.Bytes(x.s); string(b) != x.want || err != x.err {
			t.Errorf("%d: Bytes(%q) = %x, %v, want %x, %v", i, x.s, b, err, x.want, x.err)
		}
	}
}

func TestP41Word(t *testing.T) {
	for i, x := range []struct {
		s    string
		want api.Word
		err  api.Errno
	}{
		{"0x0", api.Word{}, api.OK},
		{"0x1", api.Word{1}, api.OK},
		{"0xf", api.Word{15}, api.OK},
		{"0xF", api.Word{15}, api.OK},
		{"0x10", api.Word{16}, api.OK},
		{"0xaBc", api.Word{0xabc}, api.OK},
		{"0xffffffffffffffff", api.Word{ones}, api.OK},
		{"0x10000000000000000", api.Word{0, 1}, api.OK},
		{"0x123456789abcdef0fedcba9876543210f", api.Word{0xedcba9876543210f, 0x23456789abcdef0f, 1}, api.OK},
		{"", api.Word{}, api.ErrForm},
		{"0", api.Word{}, api.ErrForm},
		{"1", api.Word{}, api.ErrForm},
		{"x1", api.Word{}, api.ErrForm},
		{"0x", api.Word{}, api.ErrForm},
		{"0X", api.Word{}, api.ErrForm},
		{"0X1", api.Word{}, api.ErrForm},
		{"0x00", api.Word{}, api.ErrForm},
		{"0x01", api.Word{}, api.ErrForm},
		{"0x0f", api.Word{}, api.ErrForm},
		{"0x0g", api.Word{}, api.ErrForm},
		{"0xg", api.Word{}, api.ErrForm},
		{"0x1g", api.Word{}, api.ErrForm},
		{"0x-1", api.Word{}, api.ErrForm},
		{"0x+1", api.Word{}, api.ErrForm},
		{"-0x1", api.Word{}, api.ErrForm},
		{"0x1_0", api.Word{}, api.ErrForm},
		{"0x 1", api.Word{}, api.ErrForm},
		{"0x1 ", api.Word{}, api.ErrForm},
		{" 0x1", api.Word{}, api.ErrForm},
		{"0x0x1", api.Word{}, api.ErrForm},
	} {
		if a, err := hex.Word(x.s); a != x.want || err != x.err {
			t.Errorf("%d: Word(%q) = %x, %v, want %x, %v", i, x.s, a, err, x.want, x.err)
		}
	}
}

func TestP41WordOfManyDigits(t *testing.T) {
	noughts := strings.Repeat("0", 63)
	for i, x := range []struct {
		digits string
		want   api.Word
		err    api.Errno
	}{
		{strings.Repeat("f", 63), api.Word{ones, ones, ones, 1<<60 - 1}, api.OK},
		{strings.Repeat("f", 64), top, api.OK},
		{strings.Repeat("F", 64), top, api.OK},
		{"8" + noughts, api.Word{0, 0, 0, 1 << 63}, api.OK},
		{"1" + noughts + "0", api.Word{}, api.ErrLong},
		{strings.Repeat("f", 65), api.Word{}, api.ErrLong},
		{strings.Repeat("f", 66), api.Word{}, api.ErrLong},
		{strings.Repeat("F", 10001), api.Word{}, api.ErrLong},
		{"0" + strings.Repeat("f", 63), api.Word{}, api.ErrForm},
		{"0" + strings.Repeat("f", 64), api.Word{}, api.ErrForm},
		{"00" + strings.Repeat("f", 64), api.Word{}, api.ErrForm},
		{noughts + "1", api.Word{}, api.ErrForm},
		{noughts + "0", api.Word{}, api.ErrForm},
		{noughts + "00", api.Word{}, api.ErrForm},
		{noughts + "01", api.Word{}, api.ErrForm},
	} {
		if a, err := hex.Word("0x" + x.digits); a != x.want || err != x.err {
			t.Errorf("%d: Word(0x%.100s) = %x, %v, want %x, %v", i, x.digits, a, err, x.want, x.err)
		}
	}
}

// A sign that is no digit counts more than too many digits, wherever it is.
func TestP41WordWithNoDigitAmongMany(t *testing.T) {
	for _, n := range []int{63, 64, 65, 66, 130} {
		for i := range n {
			for _, c := range []string{"g", "G", "x", "+", "-", "_", " ", "\x00", "\xff", "\u0661"} {
				s := "0x" + strings.Repeat("1", i) + c + strings.Repeat("1", n-1-i)
				if a, err := hex.Word(s); a != (api.Word{}) || err != api.ErrForm {
					t.Errorf("Word(%q) = %x, %v", s, a, err)
				}
			}
		}
	}
}

func TestP41Address(t *testing.T) {
	twenty := api.Address(bytes.Repeat([]byte{0xab}, 20))
	for i, x := range []struct {
		s    string
		want api.Address
		err  api.Errno
	}{
		{"0x" + strings.Repeat("ab", 20), twenty, api.OK},
		{"0x" + strings.Repeat("AB", 20), twenty, api.OK},
		{"0x" + strings.Repeat("aB", 20), twenty, api.OK},
		{"0x" + strings.Repeat("00", 20), api.Address{}, api.OK},
		{"0x" + strings.Repeat("00", 19) + "01", api.Address{19: 1}, api.OK},
		{"0x", api.Address{}, api.ErrShort},
		{"0xab", api.Address{}, api.ErrShort},
		{"0x" + strings.Repeat("ab", 19), api.Address{}, api.ErrShort},
		{"0x" + strings.Repeat("ab", 21), api.Address{}, api.ErrLong},
		{"0x" + strings.Repeat("00", 21), api.Address{}, api.ErrLong},
		{"0x" + strings.Repeat("00", 12) + strings.Repeat("ab", 20), api.Address{}, api.ErrLong},
		{"", api.Address{}, api.ErrForm},
		{strings.Repeat("ab", 20), api.Address{}, api.ErrForm},
		{"0X" + strings.Repeat("ab", 20), api.Address{}, api.ErrForm},
		{"0x" + strings.Repeat("ab", 19) + "a", api.Address{}, api.ErrForm},
		{"0x" + strings.Repeat("ab", 20) + "a", api.Address{}, api.ErrForm},
		{"0x" + strings.Repeat("ab", 19) + "ag", api.Address{}, api.ErrForm},
		{"0x" + strings.Repeat("ab", 18) + "ag", api.Address{}, api.ErrForm},
		{"0x" + strings.Repeat("ab", 20) + "ag", api.Address{}, api.ErrForm},
	} {
		if a, err := hex.Address(x.s); a != x.want || err != x.err {
			t.Errorf("%d: Address(%q) = %x, %v, want %x, %v", i, x.s, a, err, x.want, x.err)
		}
	}
}

// Each of the 256 signs, at each place of texts that are well formed but for
// it; some of these aren't valid UTF-8.
func TestP41AnySignAnywhere(t *testing.T) {
	for _, s := range []string{"0x", "0x0", "0x12", "0xabc", "0x" + strings.Repeat("ab", 20), "0x" + strings.Repeat("cd", 32)} {
		for i := range len(s) {
			for c := range 256 {
				sign := string([]byte{byte(c)})
				checkAll(t, s[:i]+sign+s[i+1:])
				checkAll(t, s[:i]+sign+s[i:])
			}
			checkAll(t, s[:i]+s[i+1:])
		}
		for c := range 256 {
			checkAll(t, s+string([]byte{byte(c)}))
		}
	}
}

// All texts of up to 6 of these signs.
func TestP41ShortTexts(t *testing.T) {
	texts := []string{""}
	for len(texts[0]) < 6 {
		var longer []string
		for _, s := range texts {
			checkAll(t, s)
			for _, c := range []byte("0x1fAg\xff") {
				longer = append(longer, s+string([]byte{c}))
			}
		}
		texts = longer
	}
	for _, s := range texts {
		checkAll(t, s)
	}
}

func TestP41TextsOfAnyBytes(t *testing.T) {
	for _, s := range []string{
		"\xff", "\xc3\x28", "0x\xff\xfe", "0x\xc3", "0xc3\xa4", "0x\xf0\x28\x8c\x28", "\xf0\x9f\x92\xa9", "0x\u00e4",
		"\u0030\u0445" + "00", "0x\uff11\uff12", "0x\u0661\u0662", "\ufeff0x00", "0x00\u2028", "0x\x00", "\x000x00",
	} {
		checkAll(t, s)
	}
	for i := range 1000 {
		b := some(i, i%80)
		checkAll(t, string(b))
		checkAll(t, "0x"+string(b))
	}
}

func TestP41LongTexts(t *testing.T) {
	b := some(1, 1<<20)
	s := hex.Text(b)
	if s != "0x"+stdhex.EncodeToString(b) {
		t.Error("Text of many bytes")
	}
	checkAll(t, s)
	checkAll(t, s+"0")
	checkAll(t, s+"0g")
	checkAll(t, "0x1"+s[2:])
	checkAll(t, "0x1"+s[2:]+"\xff")
	checkAll(t, s[2:])
}

func TestP42Bytes(t *testing.T) {
	l := [][]byte{nil, {}, {0}, {0, 0, 0}, {255, 0}, []byte("0x00"), bytes.Repeat([]byte{0}, 33)}
	for x := range 256 {
		l = append(l, []byte{byte(x)}, some(x, x), append(make([]byte, x), some(x, x)...))
	}
	for _, b := range append(l, some(0, 1<<20)) {
		s := hex.Text(b)
		if got, err := hex.Bytes(s); !bytes.Equal(got, b) || err != api.OK {
			t.Errorf("Bytes(%.200q) = %.100x, %v", s, got, err)
		}
		great := "0x" + strings.ToUpper(s[2:])
		if got, err := hex.Bytes(great); !bytes.Equal(got, b) || err != api.OK {
			t.Errorf("Bytes(%.200q) = %.100x, %v", great, got, err)
		}
	}
}

func TestP42Quantities(t *testing.T) {
	for _, a := range wordsOfAllLengths() {
		s := hex.Quantity(a)
		if got, err := hex.Word(s); got != a || err != api.OK {
			t.Errorf("Word(%q) = %x, %v, want %x", s, got, err, a)
		}
		great := "0x" + strings.ToUpper(s[2:])
		if got, err := hex.Word(great); got != a || err != api.OK {
			t.Errorf("Word(%q) = %x, %v, want %x", great, got, err, a)
		}
	}
}

func TestP42Addresses(t *testing.T) {
	for _, a := range addresses() {
		s := hex.Text(a[:])
		if got, err := hex.Address(s); got != a || err != api.OK {
			t.Errorf("Address(%q) = %x, %v", s, got, err)
		}
		great := "0x" + strings.ToUpper(s[2:])
		if got, err := hex.Address(great); got != a || err != api.OK {
			t.Errorf("Address(%q) = %x, %v", great, got, err)
		}
	}
}

// What is read is written as it was, but for great letters.
func TestP42ReadAndWritten(t *testing.T) {
	for _, s := range []string{"0x", "0x00", "0x0001", "0xabcd", "0xABCD", "0x" + strings.Repeat("Ff", 100)} {
		b, err := hex.Bytes(s)
		if got := hex.Text(b); got != strings.ToLower(s) || err != api.OK {
			t.Errorf("Text(Bytes(%q)) = %q, %v", s, got, err)
		}
	}
	for _, s := range []string{"0x0", "0x1", "0xa", "0xA", "0xaB0", "0x1" + strings.Repeat("0", 63), "0x" + strings.Repeat("fF", 32)} {
		a, err := hex.Word(s)
		if got := hex.Quantity(a); got != strings.ToLower(s) || err != api.OK {
			t.Errorf("Quantity(Word(%q)) = %q, %v", s, got, err)
		}
	}
}

func TestTextLeavesItsBytes(t *testing.T) {
	whole := some(3, 64)
	before := bytes.Clone(whole)
	s := hex.Text(whole[10:50])
	if !bytes.Equal(whole, before) {
		t.Errorf("changed: %x", whole)
	}
	clear(whole)
	if s != "0x"+stdhex.EncodeToString(before[10:50]) {
		t.Errorf("changed with the bytes: %q", s)
	}
}

func TestBytesAreNewMemory(t *testing.T) {
	const s = "0x0102030405"
	first, _ := hex.Bytes(s)
	first = first[:cap(first)]
	for i := range first {
		first[i] = 255
	}
	if second, err := hex.Bytes(s); string(second) != "\x01\x02\x03\x04\x05" || err != api.OK {
		t.Errorf("Bytes(%q) = %x, %v, once an earlier answer is changed", s, second, err)
	}
}

func TestExamples(t *testing.T) {
	if got := hex.Text([]byte{1, 255}); got != "0x01ff" {
		t.Errorf("Text(1, 255) = %q", got)
	}
	if got := hex.Quantity(word.Of(256)); got != "0x100" {
		t.Errorf("Quantity(256) = %q", got)
	}
	if a, err := hex.Word("0x0100"); a != (api.Word{}) || err != api.ErrForm {
		t.Errorf("Word(0x0100) = %x, %v", a, err)
	}
}
