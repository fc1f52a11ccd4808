package alu_test

import (
	"math/rand/v2"
	"testing"

	"smithy/alu"
	"smithy/api"
	"smithy/ops"
	"smithy/word"
)

func TestExamples(t *testing.T) {
	for _, x := range []struct {
		op         byte
		a, b, want api.Word
	}{
		{0x03, word.Of(5), word.Of(7), minus(2)},
		{0x1b, word.Of(8), one, word.Of(256)},
		{0x10, one, two, one},
	} {
		if got, ok := alu.Do(x.op, x.a, x.b, zero); got != x.want || !ok {
			t.Errorf("Do(%#x, %x, %x) = %x, %t, want %x", x.op, x.a, x.b, got, ok, x.want)
		}
	}
}

func TestP171Takes(t *testing.T) {
	var want [256]int
	for _, x := range reckoners() {
		want[x.op] = x.takes
	}
	for op := range 256 {
		if got := alu.Takes(byte(op)); got != want[op] {
			t.Errorf("Takes(%#x) = %d, want %d", op, got, want[op])
		}
	}
}

// What reckons is layer 11's: by its name, what it takes, and the one word
// that it puts.
func TestP171AsLayer11Says(t *testing.T) {
	for _, x := range reckoners() {
		told, ok := ops.Info(x.op)
		if !ok || told.Name != x.name || told.Pops != x.takes || told.Pushes != 1 {
			t.Errorf("%#x is %+v to layer 11, %s here", x.op, told, x.name)
		}
		if got := alu.Takes(x.op); got != told.Pops {
			t.Errorf("Takes(%s) = %d, want %d", x.name, got, told.Pops)
		}
	}
}

func TestP171EdgesEachWithEach(t *testing.T) {
	l := edges()
	for _, x := range reckoners() {
		for _, a := range l {
			for _, b := range l {
				check(t, x, a, b, zero)
				check(t, x, a, b, word.Of(7))
			}
		}
	}
}

func TestP171OthersEachWithEach(t *testing.T) {
	l := append(others(25, 1), edges()[:12]...)
	for _, x := range reckoners() {
		for _, a := range l {
			for _, b := range l {
				check(t, x, a, b, full)
			}
		}
	}
}

func TestP171ThreeWordsEachWithEach(t *testing.T) {
	l := append(edges()[:24], append(others(8, 2), word.Shl(one, 64), word.Shl(one, 128), minus(2), minus(255))...)
	for _, x := range reckoners() {
		if x.takes < 3 {
			continue
		}
		for _, a := range l {
			for _, b := range l {
				for _, c := range l {
					check(t, x, a, b, c)
				}
			}
		}
	}
}

func TestP171ManyWords(t *testing.T) {
	r := rand.New(rand.NewPCG(3, 17))
	for _, x := range reckoners() {
		for range 1500 {
			a, b, c := anyWord(r), anyWord(r), anyWord(r)
			check(t, x, a, b, c)
			// Small words shift, and name bytes.
			check(t, x, word.Of(r.Uint64N(300)), b, c)
			check(t, x, a, a, a)
			check(t, x, a, word.Add(a, one), c)
			check(t, x, a, word.Not(a), c)
		}
	}
}

// Shifts, and places of bytes, one by one and with bits far above.
func TestP171SmallFirstWords(t *testing.T) {
	l := append(others(6, 4), full, least, most, one, minus(2), word.Shl(word.Of(0x80), 80))
	for _, x := range reckoners() {
		switch x.name {
		case "SIGNEXTEND", "BYTE", "SHL", "SHR", "SAR":
		default:
			continue
		}
		for n := range uint64(270) {
			for _, b := range l {
				check(t, x, word.Of(n), b, zero)
				check(t, x, api.Word{n, 1}, b, zero)
				check(t, x, api.Word{n, 0, 0, 1 << 63}, b, zero)
				check(t, x, word.Of(1<<32+n), b, zero)
				check(t, x, word.Of(1<<63+n), b, zero)
				check(t, x, word.Of(ones-n), b, zero)
			}
		}
	}
}

// What the words put, worked out by hand.
func TestP171SumsByHand(t *testing.T) {
	for i, x := range []struct {
		op            byte
		a, b, c, want api.Word
	}{
		{0x01, full, one, zero, zero},
		{0x01, full, full, zero, minus(2)},
		{0x01, word.Of(ones), one, zero, api.Word{0, 1}},
		{0x02, least, two, zero, zero},
		{0x02, full, full, zero, one},
		{0x02, word.Of(ones), word.Of(ones), zero, api.Word{1, ones - 1}},
		{0x03, zero, one, zero, full},
		{0x03, word.Of(7), word.Of(5), zero, two},
		{0x04, word.Of(7), two, zero, word.Of(3)},
		{0x04, two, word.Of(7), zero, zero},
		{0x04, word.Of(7), zero, zero, zero},
		{0x04, full, two, zero, most},
		{0x05, minus(7), two, zero, minus(3)},
		{0x05, word.Of(7), minus(2), zero, minus(3)},
		{0x05, minus(7), minus(2), zero, word.Of(3)},
		{0x05, least, full, zero, least},
		{0x05, minus(7), zero, zero, zero},
		{0x06, word.Of(7), word.Of(4), zero, word.Of(3)},
		{0x06, full, word.Of(16), zero, word.Of(15)},
		{0x06, word.Of(7), zero, zero, zero},
		{0x07, minus(7), word.Of(4), zero, minus(3)},
		{0x07, word.Of(7), minus(4), zero, word.Of(3)},
		{0x07, minus(7), minus(4), zero, minus(3)},
		{0x07, minus(7), zero, zero, zero},
		{0x08, word.Of(10), word.Of(10), word.Of(8), word.Of(4)},
		{0x08, full, two, two, one},
		{0x08, full, full, full, zero},
		{0x08, full, full, zero, zero},
		{0x08, full, one, full, one},
		{0x09, word.Of(10), word.Of(10), word.Of(8), word.Of(4)},
		{0x09, full, full, word.Of(12), word.Of(9)},
		{0x09, least, two, word.Of(3), one},
		{0x09, full, full, zero, zero},
		{0x0a, two, word.Of(10), zero, word.Of(1024)},
		{0x0a, word.Of(10), two, zero, word.Of(100)},
		{0x0a, zero, zero, zero, one},
		{0x0a, full, zero, zero, one},
		{0x0a, zero, one, zero, zero},
		{0x0a, zero, full, zero, zero},
		{0x0a, word.Of(9), one, zero, word.Of(9)},
		{0x0a, two, word.Of(255), zero, least},
		{0x0a, two, word.Of(256), zero, zero},
		{0x0a, full, full, zero, full},
		{0x0b, zero, word.Of(0xff), zero, full},
		{0x0b, zero, word.Of(0x17f), zero, word.Of(0x7f)},
		{0x0b, one, word.Of(0xff), zero, word.Of(0xff)},
		{0x0b, word.Of(30), api.Word{0, 0, 0, 1 << 55}, zero, api.Word{0, 0, 0, 0xff80 << 48}},
		{0x0b, word.Of(31), api.Word{0, 0, 0, 1 << 55}, zero, api.Word{0, 0, 0, 1 << 55}},
		{0x0b, api.Word{0, 1}, word.Of(0xff), zero, word.Of(0xff)},
		{0x0b, full, word.Of(0xff), zero, word.Of(0xff)},
	} {
		if got := do(t, x.op, x.a, x.b, x.c); got != x.want {
			t.Errorf("%d: Do(%#x, %x, %x, %x) = %x, want %x", i, x.op, x.a, x.b, x.c, got, x.want)
		}
	}
}

func TestP171BitsByHand(t *testing.T) {
	for i, x := range []struct {
		op         byte
		a, b, want api.Word
	}{
		{0x10, one, two, one}, {0x10, two, one, zero}, {0x10, two, two, zero}, {0x10, zero, full, one}, {0x10, full, zero, zero},
		{0x11, two, one, one}, {0x11, one, two, zero}, {0x11, two, two, zero}, {0x11, full, zero, one}, {0x11, zero, full, zero},
		{0x12, full, zero, one}, {0x12, zero, full, zero}, {0x12, least, most, one}, {0x12, most, least, zero}, {0x12, minus(2), full, one}, {0x12, full, full, zero},
		{0x13, zero, full, one}, {0x13, full, zero, zero}, {0x13, most, least, one}, {0x13, least, most, zero}, {0x13, full, minus(2), one}, {0x13, full, full, zero},
		{0x14, full, full, one}, {0x14, full, minus(2), zero}, {0x14, zero, zero, one}, {0x14, api.Word{0, 0, 0, 1}, zero, zero},
		{0x15, zero, full, one}, {0x15, one, zero, zero}, {0x15, least, zero, zero}, {0x15, api.Word{0, 1}, zero, zero},
		{0x16, word.Of(6), word.Of(3), two}, {0x17, word.Of(6), word.Of(3), word.Of(7)}, {0x18, word.Of(6), word.Of(3), word.Of(5)},
		{0x19, zero, zero, full}, {0x19, full, one, zero}, {0x19, word.Of(5), full, minus(6)},
		{0x1a, word.Of(31), word.Of(0x1ff), word.Of(0xff)}, {0x1a, word.Of(30), word.Of(0x1ff), one},
		{0x1a, zero, least, word.Of(0x80)}, {0x1a, word.Of(32), full, zero}, {0x1a, word.Of(255), full, zero}, {0x1a, word.Of(256), full, zero},
		{0x1a, api.Word{31, 1}, full, zero}, {0x1a, full, full, zero},
		{0x1b, zero, word.Of(5), word.Of(5)}, {0x1b, word.Of(8), one, word.Of(256)}, {0x1b, word.Of(255), word.Of(3), least},
		{0x1b, word.Of(256), one, zero}, {0x1b, word.Of(257), full, zero}, {0x1b, api.Word{0, 1}, full, zero}, {0x1b, api.Word{8, 0, 1}, one, zero}, {0x1b, full, full, zero},
		{0x1c, zero, word.Of(5), word.Of(5)}, {0x1c, one, word.Of(5), two}, {0x1c, word.Of(255), full, one},
		{0x1c, word.Of(256), full, zero}, {0x1c, word.Of(257), full, zero}, {0x1c, api.Word{0, 1}, full, zero}, {0x1c, api.Word{8, 0, 1}, full, zero}, {0x1c, full, full, zero},
		{0x1d, zero, minus(8), minus(8)}, {0x1d, one, word.Of(8), word.Of(4)}, {0x1d, one, minus(8), minus(4)}, {0x1d, one, minus(7), minus(4)},
		{0x1d, word.Of(255), least, full}, {0x1d, word.Of(255), most, zero}, {0x1d, word.Of(254), most, one},
		{0x1d, word.Of(256), least, full}, {0x1d, word.Of(256), most, zero}, {0x1d, word.Of(257), full, full},
		{0x1d, api.Word{0, 1}, least, full}, {0x1d, api.Word{0, 1}, most, zero}, {0x1d, full, least, full}, {0x1d, full, most, zero},
	} {
		if got := do(t, x.op, x.a, x.b); got != x.want {
			t.Errorf("%d: Do(%#x, %x, %x) = %x, want %x", i, x.op, x.a, x.b, got, x.want)
		}
	}
}

func TestP171WordsNotTakenPlayNoPart(t *testing.T) {
	l := append(edges()[:20], others(10, 5)...)
	for _, x := range reckoners() {
		for _, a := range l {
			for _, b := range l {
				want := do(t, x.op, a, b, word.Of(5))
				for _, c := range l {
					if x.takes < 3 {
						if got := do(t, x.op, a, b, c); got != want {
							t.Errorf("Do(%s, %x, %x, %x) = %x, want %x", x.name, a, b, c, got, want)
						}
					}
					if x.takes < 2 {
						if got := do(t, x.op, a, c, b); got != want {
							t.Errorf("Do(%s, %x, %x, %x) = %x, want %x", x.name, a, c, b, got, want)
						}
					}
				}
			}
		}
	}
}

func TestP171NoneThatReckons(t *testing.T) {
	var reckons [256]bool
	for _, x := range reckoners() {
		reckons[x.op] = true
	}
	l := append(edges()[:16], others(4, 6)...)
	for op := range 256 {
		if reckons[op] {
			continue
		}
		for _, a := range l {
			for _, b := range l {
				for _, c := range []api.Word{zero, one, full, a} {
					if got, ok := alu.Do(byte(op), a, b, c); got != zero || ok {
						t.Errorf("Do(%#x, %x, %x, %x) = %x, %t, want 0, false", op, a, b, c, got, ok)
					}
				}
			}
		}
	}
}

// What is told of something is 1 or 0, and nothing else.
func TestP171Told(t *testing.T) {
	for _, a := range edges() {
		for _, b := range edges() {
			for op := byte(0x10); op <= 0x15; op++ {
				if got := do(t, op, a, b); got != zero && got != one {
					t.Errorf("Do(%#x, %x, %x) = %x", op, a, b, got)
				}
			}
			// Of less, more and the same just one is so.
			if sum := word.Add(do(t, 0x10, a, b), word.Add(do(t, 0x11, a, b), do(t, 0x14, a, b))); sum != one {
				t.Errorf("%x is %x of less than, more than and the same as %x", a, sum, b)
			}
			if sum := word.Add(do(t, 0x12, a, b), word.Add(do(t, 0x13, a, b), do(t, 0x14, a, b))); sum != one {
				t.Errorf("%x is %x of below, above and the same as %x", a, sum, b)
			}
		}
	}
}

// The same arguments are answered the same, whatever was asked in between.
func TestAnswersHangOnArgumentsAlone(t *testing.T) {
	l := append(others(6, 7), edges()[:6]...)
	for _, x := range reckoners() {
		for _, a := range l {
			b, c := word.Not(a), word.Add(a, one)
			before := do(t, x.op, a, b, c)
			for _, y := range reckoners() {
				do(t, y.op, c, a, b)
			}
			if got := do(t, x.op, a, b, c); got != before {
				t.Errorf("Do(%s, %x, %x, %x) = %x, and %x before", x.name, a, b, c, got, before)
			}
		}
	}
}
