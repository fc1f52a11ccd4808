package ops_test

import (
	"bytes"
	"fmt"
	"slices"
	"strconv"
	"strings"
	"testing"

	"smithy/api"
	"smithy/hex"
	"smithy/ops"
)

func TestP111Info(t *testing.T) {
	if len(all) != 144 {
		t.Fatalf("the table has %d instructions", len(all))
	}
	for op := range 256 {
		want, fits := all[byte(op)]
		if got, ok := ops.Info(byte(op)); got != want || ok != fits {
			t.Errorf("Info(0x%02x) = %+v, %t, want %+v, %t", op, got, ok, want, fits)
		}
	}
}

// What the chapter says of rows of instructions, at their ends.
func TestP111InfoOfNumberedInstructions(t *testing.T) {
	for _, x := range []struct {
		op   byte
		want api.Op
	}{
		{0x5f, api.Op{Name: "PUSH0", Pushes: 1, Gas: 2}},
		{0x60, api.Op{Name: "PUSH1", Pushes: 1, Gas: 3, Data: 1}},
		{0x61, api.Op{Name: "PUSH2", Pushes: 1, Gas: 3, Data: 2}},
		{0x68, api.Op{Name: "PUSH9", Pushes: 1, Gas: 3, Data: 9}},
		{0x69, api.Op{Name: "PUSH10", Pushes: 1, Gas: 3, Data: 10}},
		{0x7e, api.Op{Name: "PUSH31", Pushes: 1, Gas: 3, Data: 31}},
		{0x7f, api.Op{Name: "PUSH32", Pushes: 1, Gas: 3, Data: 32}},
		{0x80, api.Op{Name: "DUP1", Pops: 1, Pushes: 2, Gas: 3}},
		{0x8f, api.Op{Name: "DUP16", Pops: 16, Pushes: 17, Gas: 3}},
		{0x90, api.Op{Name: "SWAP1", Pops: 2, Pushes: 2, Gas: 3}},
		{0x9f, api.Op{Name: "SWAP16", Pops: 17, Pushes: 17, Gas: 3}},
		{0xa0, api.Op{Name: "LOG0", Pops: 2, Gas: 375}},
		{0xa1, api.Op{Name: "LOG1", Pops: 3, Gas: 750}},
		{0xa4, api.Op{Name: "LOG4", Pops: 6, Gas: 1875}},
		{0xfe, api.Op{Name: "INVALID"}},
	} {
		if got, ok := ops.Info(x.op); got != x.want || !ok {
			t.Errorf("Info(0x%02x) = %+v, %t, want %+v", x.op, got, ok, x.want)
		}
	}
}

func TestP111InfoOfNone(t *testing.T) {
	none := []byte{0xf6, 0xf7, 0xf8, 0xf9, 0xfb, 0xfc}
	for _, ends := range [][2]int{{0x0c, 0x0f}, {0x1e, 0x1f}, {0x21, 0x2f}, {0x49, 0x4f}, {0x5c, 0x5e}, {0xa5, 0xef}} {
		for op := ends[0]; op <= ends[1]; op++ {
			none = append(none, byte(op))
		}
	}
	if len(none) != 256-144 {
		t.Fatal(len(none), "that are none")
	}
	for _, op := range none {
		if got, ok := ops.Info(op); got != (api.Op{}) || ok {
			t.Errorf("Info(0x%02x) = %+v, %t", op, got, ok)
		}
	}
}

// push is PUSHn, with so many bytes behind, each of which is x.
func push(n, bytesBehind int, x byte) []byte {
	return append([]byte{byte(0x5f + n)}, bytes.Repeat([]byte{x}, bytesBehind)...)
}

func TestP111NoCode(t *testing.T) {
	for _, code := range [][]byte{nil, {}, make([]byte, 0, 40)} {
		check(t, code)
		checkFar(t, code)
		if l := ops.Dests(code); len(l) != 0 {
			t.Errorf("Dests = %v", l)
		}
		if s := ops.Text(code); s != "" {
			t.Errorf("Text = %q", s)
		}
	}
}

// What is behind the length of a code is none of it.
func TestP111SpareRoomIsNoCode(t *testing.T) {
	whole := bytes.Repeat([]byte{0x5b}, 60)
	check(t, whole[:0])
	if ops.Dest(whole[:0], small(0)) || ops.Dest(whole[:7], small(7)) || len(ops.Dests(whole[:7])) != 7 {
		t.Error("destinations behind the length")
	}
	for n := 1; n <= 32; n++ {
		copy(whole, push(n, 0, 0))
		if got, want := ops.Text(whole[:1]), fmt.Sprintf("0 PUSH%d 0x\n", n); got != want {
			t.Errorf("Text = %q, want %q", got, want)
		}
		check(t, whole[:1])
		check(t, whole[:2])
		check(t, whole[:n])
	}
}

func TestP111DestsInKnownCodes(t *testing.T) {
	for _, x := range []struct {
		code string
		want []int
	}{
		{"0x", nil}, {"0x00", nil}, {"0x5a5c5f", nil}, {"0x605b", nil}, {"0x60", nil}, {"0x7f", nil},
		{"0x5b", []int{0}}, {"0x5b00", []int{0}}, {"0x005b", []int{1}}, {"0x5b5b5b", []int{0, 1, 2}},
		{"0x5f5b", []int{1}}, {"0x605b5b", []int{2}}, {"0x615b5b5b", []int{3}}, {"0x615b5b", nil}, {"0x615b", nil},
		{"0x60605b", []int{2}}, {"0x60605b5b", []int{2, 3}}, {"0x6060605b", nil}, {"0x61605b5b", []int{3}}, {"0x617f7f5b", []int{3}},
		{"0x0c5b", []int{1}}, {"0xef5b", []int{1}}, {"0xfe5b", []int{1}}, {"0x805b", []int{1}}, {"0x5c5b5d5b5e5b", []int{1, 3, 5}},
	} {
		code, err := hex.Bytes(x.code)
		if err != api.OK {
			t.Fatal(x.code, err)
		}
		if got := ops.Dests(code); !slices.Equal(got, x.want) {
			t.Errorf("Dests(%s) = %v, want %v", x.code, got, x.want)
		}
		check(t, code)
		checkFar(t, code)
	}
}

func TestP111DestBehindEachByte(t *testing.T) {
	for op := range 256 {
		for n := range 35 {
			code := append([]byte{byte(op)}, bytes.Repeat([]byte{0x5b}, n)...)
			check(t, code)
			check(t, append([]byte{0x5b}, code...))
			first := 1 + all[byte(op)].Data // the first place that isn't the instruction's
			for at := 1; at <= n; at++ {
				if got := ops.Dest(code, small(at)); got != (at >= first) {
					t.Fatalf("%x: Dest(%d) = %t", code, at, got)
				}
			}
		}
	}
}

func TestP111DestAmongAPushsBytes(t *testing.T) {
	for n := range 33 {
		for present := range n + 1 { // from none of its bytes to all of them
			for at := range present {
				code := push(n, present, 0xaa)
				code[1+at] = 0x5b
				if l := ops.Dests(code); len(l) != 0 {
					t.Errorf("%x: Dests = %v", code, l)
				}
				check(t, code)
				check(t, append([]byte{0x5b, 0x00}, code...))
			}
			code := append(push(n, present, 0x5b), 0x5b)
			var want []int
			if present == n {
				want = []int{n + 1}
			}
			if l := ops.Dests(code); !slices.Equal(l, want) {
				t.Errorf("%x: Dests = %v, want %v", code, l, want)
			}
			check(t, code)
			checkFar(t, code)
			check(t, push(n, present, 0x00))
		}
	}
}

// A PUSH that belongs to another one takes no bytes of its own.
func TestP111PushAmongAPushsBytes(t *testing.T) {
	for n := 1; n <= 32; n++ {
		for inner := 1; inner <= 32; inner++ {
			for _, at := range []int{1, 2, n/2 + 1, n - 1, n} {
				if at < 1 || at > n {
					continue
				}
				code := push(n, n, 0x5b)
				code[at] = byte(0x5f + inner)
				check(t, code)
				code = append(code, 0x5b, 0x5b, 0x00, 0x5b)
				if got, want := ops.Dests(code), []int{n + 1, n + 2, n + 4}; !slices.Equal(got, want) {
					t.Errorf("%x: Dests = %v, want %v", code, got, want)
				}
				check(t, code)
			}
		}
	}
}

func TestP111ShortCodes(t *testing.T) {
	codes := [][]byte{{}}
	for range 5 {
		var longer [][]byte
		for _, code := range codes {
			for _, x := range []byte{0x00, 0x5b, 0x5f, 0x60, 0x61, 0x63, 0x7f, 0x80} {
				longer = append(longer, append(slices.Clone(code), x))
			}
		}
		for _, code := range longer {
			check(t, code)
		}
		codes = longer
	}
	for a := range 256 {
		for b := range 256 {
			check(t, []byte{byte(a), byte(b), 0x5b})
		}
	}
}

func TestP111DrawnCodes(t *testing.T) {
	for seed := range 3000 {
		code := drawn(seed, seed%200)
		check(t, code)
		if seed%10 < 3 {
			checkFar(t, code)
		}
	}
}

func TestP111LongCodes(t *testing.T) {
	for seed := range 6 {
		code := drawn(seed, api.MaxCode+seed)
		checkWhole(t, code)
		want := modelDests(code)
		for at := 0; at < len(code); at += 11 {
			if got := ops.Dest(code, small(at)); got != slices.Contains(want, at) {
				t.Fatalf("%d: Dest(%d) = %t", seed, at, got)
			}
		}
		checkWhole(t, drawn(seed, 1<<20))
	}
	for _, x := range []byte{0x5b, 0x00, 0x60, 0x7f, 0xee} {
		code := bytes.Repeat([]byte{x}, 1<<20)
		checkWhole(t, code)
		for _, at := range []int{0, 1, 2, 1<<20 - 34, 1<<20 - 33, 1<<20 - 2, 1<<20 - 1, 1 << 20, 1<<20 + 1} {
			if got := ops.Dest(code, small(at)); got != (x == 0x5b && at < len(code)) {
				t.Errorf("%d times 0x%02x: Dest(%d) = %t", len(code), x, at, got)
			}
		}
	}
}

func TestP111DestFarOff(t *testing.T) {
	code := []byte{0x5b, 0x60, 0x5b, 0x5b}
	checkFar(t, code)
	one := uint64(1)
	for _, at := range []api.Word{
		{4}, {5}, {255}, {256}, {1 << 31}, {1<<32 - 1}, {1 << 32}, {1<<32 + 3}, {1<<63 - 1}, {1 << 63}, {1<<63 + 3}, {-one},
		{0, 1}, {3, 1}, {0, 0, 1}, {3, 0, 1}, {0, 0, 0, 1}, {3, 0, 0, 1}, {0, 0, 0, 1 << 63}, {3, 0, 0, 1 << 63},
		{-one, -one, -one, -one}, {0, -one, -one, -one}, {3, -one, -one, -one},
	} {
		if ops.Dest(code, at) {
			t.Errorf("Dest(%x)", at)
		}
	}
	for at, want := range []bool{true, false, false, true} {
		if got := ops.Dest(code, small(at)); got != want {
			t.Errorf("Dest(%d) = %t", at, got)
		}
	}
}

func TestP111TextOfOneByte(t *testing.T) {
	for op := range 256 {
		want := fmt.Sprintf("0 0x%02x\n", op)
		switch x, ok := all[byte(op)]; {
		case x.Data > 0:
			want = "0 " + x.Name + " 0x\n"
		case ok:
			want = "0 " + x.Name + "\n"
		}
		if got := ops.Text([]byte{byte(op)}); got != want {
			t.Errorf("Text of 0x%02x = %q, want %q", op, got, want)
		}
	}
}

func TestP111TextOfKnownCodes(t *testing.T) {
	for _, x := range []struct{ code, want string }{
		{"0x00", "0 STOP\n"}, {"0x0c", "0 0x0c\n"}, {"0xa5", "0 0xa5\n"}, {"0xfe", "0 INVALID\n"}, {"0xef00", "0 0xef\n1 STOP\n"},
		{"0x5f", "0 PUSH0\n"}, {"0x5f5f", "0 PUSH0\n1 PUSH0\n"}, {"0x5fab", "0 PUSH0\n1 0xab\n"},
		{"0x60", "0 PUSH1 0x\n"}, {"0x6000", "0 PUSH1 0x00\n"}, {"0x60ff", "0 PUSH1 0xff\n"}, {"0x600100", "0 PUSH1 0x01\n2 STOP\n"},
		{"0x61", "0 PUSH2 0x\n"}, {"0x6100", "0 PUSH2 0x00\n"}, {"0x610000", "0 PUSH2 0x0000\n"}, {"0x61000000", "0 PUSH2 0x0000\n3 STOP\n"},
		{"0x6060", "0 PUSH1 0x60\n"}, {"0x606060", "0 PUSH1 0x60\n2 PUSH1 0x\n"}, {"0x60606060", "0 PUSH1 0x60\n2 PUSH1 0x60\n"},
		{"0x5b605b5b", "0 JUMPDEST\n1 PUSH1 0x5b\n3 JUMPDEST\n"}, {"0x7f01", "0 PUSH32 0x01\n"}, {"0x007f", "0 STOP\n1 PUSH32 0x\n"},
		{"0x8f9fa4ff", "0 DUP16\n1 SWAP16\n2 LOG4\n3 SELFDESTRUCT\n"}, {"0x20f5", "0 KECCAK256\n1 CREATE2\n"},
	} {
		code, err := hex.Bytes(x.code)
		if err != api.OK {
			t.Fatal(x.code, err)
		}
		if got := ops.Text(code); got != x.want {
			t.Errorf("Text(%s) = %q, want %q", x.code, got, x.want)
		}
		check(t, code)
	}
}

func TestP111TextOfEachPush(t *testing.T) {
	b := drawn(0, 32)
	digits := hex.Text(b)[2:]
	for n := 1; n <= 32; n++ {
		for present := range n + 1 {
			want := fmt.Sprintf("0 PUSH%d 0x%s\n", n, digits[:2*present])
			code := append([]byte{byte(0x5f + n)}, b[:present]...)
			if got := ops.Text(code); got != want {
				t.Errorf("Text(%x) = %q, want %q", code, got, want)
			}
			if present < n {
				continue
			}
			want += fmt.Sprintf("%d ADD\n", n+1)
			if got := ops.Text(append(code, 0x01)); got != want {
				t.Errorf("Text(%x01) = %q, want %q", code, got, want)
			}
		}
	}
}

func TestP111TextOfManyPlaces(t *testing.T) {
	const n = 100010
	lines := strings.SplitAfter(ops.Text(make([]byte, n)), "\n")
	if len(lines) != n+1 || lines[n] != "" {
		t.Fatalf("%d lines, the last one %q", len(lines), lines[len(lines)-1])
	}
	for at, line := range lines[:n] {
		if want := strconv.Itoa(at) + " STOP\n"; line != want {
			t.Fatalf("line %d: %q", at, line)
		}
	}
}

// lines are the instructions of a code's text: their places, and all bytes of
// each, read from its words alone.
func lines(t *testing.T, code []byte) ([]int, [][]byte) {
	t.Helper()
	byName := map[string]byte{}
	for op, x := range all {
		byName[x.Name] = op
	}
	var places []int
	var parts [][]byte
	for line := range strings.Lines(ops.Text(code)) {
		words := strings.Split(strings.TrimSuffix(line, "\n"), " ")
		at, err := strconv.Atoi(words[0])
		if err != nil || len(words) < 2 || len(words) > 3 {
			t.Fatalf("%x: line %q", code, line)
		}
		part := []byte{byName[words[1]]}
		if _, ok := byName[words[1]]; !ok {
			part, _ = hex.Bytes(words[1])
		}
		if len(words) == 3 {
			b, _ := hex.Bytes(words[2])
			part = append(part, b...)
		}
		places, parts = append(places, at), append(parts, part)
	}
	return places, parts
}

// checkParted tells whether a code's text has each byte of it in just one
// instruction, whose places rise without a gap, and whether its destinations are
// the JUMPDESTs among these instructions.
func checkParted(t *testing.T, code []byte) {
	t.Helper()
	places, parts := lines(t, code)
	if got := slices.Concat(parts...); !bytes.Equal(got, code) {
		t.Fatalf("%x: its instructions are %x", code, got)
	}
	var dests []int
	next := 0
	for i, part := range parts {
		if places[i] != next || len(part) == 0 {
			t.Fatalf("%x: an instruction at %d, want %d", code, places[i], next)
		}
		if data := all[part[0]].Data; len(part) != 1+data && i < len(parts)-1 || len(part) > 1+data {
			t.Fatalf("%x: the instruction at %d has %d bytes", code, next, len(part))
		}
		if part[0] == 0x5b {
			dests = append(dests, next)
		}
		next += len(part)
	}
	if got := ops.Dests(code); !slices.Equal(got, dests) || !slices.IsSorted(got) || len(slices.Compact(slices.Clone(got))) != len(got) {
		t.Fatalf("%x: Dests = %v, want %v", code, got, dests)
	}
}

func TestP112EachByteBelongsToOneInstruction(t *testing.T) {
	checkParted(t, nil)
	for op := range 256 {
		for n := range 40 {
			checkParted(t, append([]byte{byte(op)}, bytes.Repeat([]byte{0x5b}, n)...))
			checkParted(t, bytes.Repeat([]byte{byte(op)}, n))
		}
	}
	for seed := range 3000 {
		checkParted(t, drawn(seed, seed%150))
	}
}

// checkCut tells whether the destinations of two codes, one behind the other,
// are those that each has alone, those of the second one moved.
func checkCut(t *testing.T, first, second []byte) {
	t.Helper()
	whole := slices.Concat(first, second)
	want := append(ops.Dests(first), moved(ops.Dests(second), len(first))...)
	if got := ops.Dests(whole); !slices.Equal(got, want) {
		t.Fatalf("%x and %x: Dests = %v, want %v", first, second, got, want)
	}
	for at := range len(second) + 3 {
		if got, alone := ops.Dest(whole, small(len(first)+at)), ops.Dest(second, small(at)); got != alone {
			t.Fatalf("%x and %x: Dest(%d) = %t", first, second, len(first)+at, got)
		}
	}
}

func TestP112WhatIsBehindAPushStandsAlone(t *testing.T) {
	for n := range 33 {
		for _, x := range []byte{0x00, 0x5b, 0x60, 0x7f, 0xff} {
			for seed := range 30 {
				checkCut(t, push(n, n, x), drawn(seed, seed+3))
			}
		}
	}
	for op := range 256 {
		for seed := range 9 {
			first := append([]byte{byte(op)}, drawn(op, all[byte(op)].Data)...)
			checkCut(t, first, drawn(seed, 40))
		}
	}
}

func TestP112WhatIsBehindAnInstructionStandsAlone(t *testing.T) {
	for seed := range 300 {
		code := drawn(seed, 60)
		for i, head := range heads(code) {
			if head == i {
				checkCut(t, code[:i], code[i:])
			}
		}
	}
}

func TestWhatIsHandedInStays(t *testing.T) {
	for seed := range 100 {
		whole := drawn(seed, 100)
		before := bytes.Clone(whole)
		code := whole[20:80]
		dests, text := ops.Dests(code), ops.Text(code)
		for at := range len(code) + 1 {
			ops.Dest(code, small(at))
		}
		if !bytes.Equal(whole, before) {
			t.Fatalf("%x: changed to %x", before, whole)
		}
		// Nor does an answer hang on what becomes of the code.
		wantDests, wantText := modelDests(code), modelText(code)
		for i := range whole {
			whole[i] ^= 255
		}
		if !slices.Equal(dests, wantDests) || text != wantText {
			t.Fatalf("%x: an answer changes with the code", before)
		}
		check(t, code)
	}
}

func TestAnswersAreNobodyElses(t *testing.T) {
	for seed := range 100 {
		code := drawn(seed, seed)
		want := modelDests(code)
		first, second := ops.Dests(code), ops.Dests(code)
		room := second[:cap(second)]
		for i := range room {
			room[i] = -1
		}
		_ = append(second, 7)
		if !slices.Equal(first, want) {
			t.Fatalf("%x: Dests = %v, once another answer is changed", code, first)
		}
		check(t, code)
	}
	for op := range 256 {
		x, _ := ops.Info(byte(op))
		x.Name, x.Pops, x.Data = "?", 99, 99
		if got, _ := ops.Info(byte(op)); got != all[byte(op)] {
			t.Fatalf("Info(0x%02x) = %+v, once an earlier answer is changed", op, got)
		}
	}
}

func TestExamples(t *testing.T) {
	if got := ops.Dests([]byte{0x5b, 0x60, 0x5b, 0x5b}); !slices.Equal(got, []int{0, 3}) {
		t.Errorf("Dests(0x5b605b5b) = %v", got)
	}
	if got := ops.Text([]byte{0x60, 0x01}); got != "0 PUSH1 0x01\n" {
		t.Errorf("Text(0x6001) = %q", got)
	}
}
