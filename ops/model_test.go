package ops_test

import (
	"bytes"
	"fmt"
	"math/rand/v2"
	"slices"
	"strings"
	"testing"

	"smithy/api"
	"smithy/ops"
)

// table are the chapter's rows, as they stand there.
const table = `
| 0x00 | STOP | 0 | 0 | 0 |
| 0x01 | ADD | 2 | 1 | 3 |
| 0x02 | MUL | 2 | 1 | 5 |
| 0x03 | SUB | 2 | 1 | 3 |
| 0x04 | DIV | 2 | 1 | 5 |
| 0x05 | SDIV | 2 | 1 | 5 |
| 0x06 | MOD | 2 | 1 | 5 |
| 0x07 | SMOD | 2 | 1 | 5 |
| 0x08 | ADDMOD | 3 | 1 | 8 |
| 0x09 | MULMOD | 3 | 1 | 8 |
| 0x0a | EXP | 2 | 1 | 10 |
| 0x0b | SIGNEXTEND | 2 | 1 | 5 |
| 0x10 | LT | 2 | 1 | 3 |
| 0x11 | GT | 2 | 1 | 3 |
| 0x12 | SLT | 2 | 1 | 3 |
| 0x13 | SGT | 2 | 1 | 3 |
| 0x14 | EQ | 2 | 1 | 3 |
| 0x15 | ISZERO | 1 | 1 | 3 |
| 0x16 | AND | 2 | 1 | 3 |
| 0x17 | OR | 2 | 1 | 3 |
| 0x18 | XOR | 2 | 1 | 3 |
| 0x19 | NOT | 1 | 1 | 3 |
| 0x1a | BYTE | 2 | 1 | 3 |
| 0x1b | SHL | 2 | 1 | 3 |
| 0x1c | SHR | 2 | 1 | 3 |
| 0x1d | SAR | 2 | 1 | 3 |
| 0x20 | KECCAK256 | 2 | 1 | 30 |
| 0x30 | ADDRESS | 0 | 1 | 2 |
| 0x31 | BALANCE | 1 | 1 | 100 |
| 0x32 | ORIGIN | 0 | 1 | 2 |
| 0x33 | CALLER | 0 | 1 | 2 |
| 0x34 | CALLVALUE | 0 | 1 | 2 |
| 0x35 | CALLDATALOAD | 1 | 1 | 3 |
| 0x36 | CALLDATASIZE | 0 | 1 | 2 |
| 0x37 | CALLDATACOPY | 3 | 0 | 3 |
| 0x38 | CODESIZE | 0 | 1 | 2 |
| 0x39 | CODECOPY | 3 | 0 | 3 |
| 0x3a | GASPRICE | 0 | 1 | 2 |
| 0x3b | EXTCODESIZE | 1 | 1 | 100 |
| 0x3c | EXTCODECOPY | 4 | 0 | 100 |
| 0x3d | RETURNDATASIZE | 0 | 1 | 2 |
| 0x3e | RETURNDATACOPY | 3 | 0 | 3 |
| 0x3f | EXTCODEHASH | 1 | 1 | 100 |
| 0x40 | BLOCKHASH | 1 | 1 | 20 |
| 0x41 | COINBASE | 0 | 1 | 2 |
| 0x42 | TIMESTAMP | 0 | 1 | 2 |
| 0x43 | NUMBER | 0 | 1 | 2 |
| 0x44 | PREVRANDAO | 0 | 1 | 2 |
| 0x45 | GASLIMIT | 0 | 1 | 2 |
| 0x46 | CHAINID | 0 | 1 | 2 |
| 0x47 | SELFBALANCE | 0 | 1 | 5 |
| 0x48 | BASEFEE | 0 | 1 | 2 |
| 0x50 | POP | 1 | 0 | 2 |
| 0x51 | MLOAD | 1 | 1 | 3 |
| 0x52 | MSTORE | 2 | 0 | 3 |
| 0x53 | MSTORE8 | 2 | 0 | 3 |
| 0x54 | SLOAD | 1 | 1 | 100 |
| 0x55 | SSTORE | 2 | 0 | 100 |
| 0x56 | JUMP | 1 | 0 | 8 |
| 0x57 | JUMPI | 2 | 0 | 10 |
| 0x58 | PC | 0 | 1 | 2 |
| 0x59 | MSIZE | 0 | 1 | 2 |
| 0x5a | GAS | 0 | 1 | 2 |
| 0x5b | JUMPDEST | 0 | 0 | 1 |
| 0x5f | PUSH0 | 0 | 1 | 2 |
| 0xf0 | CREATE | 3 | 1 | 32000 |
| 0xf1 | CALL | 7 | 1 | 100 |
| 0xf2 | CALLCODE | 7 | 1 | 100 |
| 0xf3 | RETURN | 2 | 0 | 0 |
| 0xf4 | DELEGATECALL | 6 | 1 | 100 |
| 0xf5 | CREATE2 | 4 | 1 | 32000 |
| 0xfa | STATICCALL | 6 | 1 | 100 |
| 0xfd | REVERT | 2 | 0 | 0 |
| 0xfe | INVALID | 0 | 0 | 0 |
| 0xff | SELFDESTRUCT | 1 | 0 | 5000 |
`

// all are the instructions by their bytes.
var all = instructions()

// instructions are the chapter's section 'Words': its table, and what is said
// of the others below it.
func instructions() map[byte]api.Op {
	told := map[byte]api.Op{}
	for row := range strings.SplitSeq(strings.TrimSpace(table), "\n") {
		var op byte
		var x api.Op
		if _, err := fmt.Sscanf(row, "| 0x%x | %s | %d | %d | %d |", &op, &x.Name, &x.Pops, &x.Pushes, &x.Gas); err != nil {
			panic(row + ": " + err.Error())
		}
		told[op] = x
	}
	for n := 1; n <= 32; n++ {
		told[byte(0x60+n-1)] = api.Op{Name: fmt.Sprint("PUSH", n), Pushes: 1, Gas: 3, Data: n}
	}
	for n := 1; n <= 16; n++ {
		told[byte(0x80+n-1)] = api.Op{Name: fmt.Sprint("DUP", n), Pops: n, Pushes: n + 1, Gas: 3}
		told[byte(0x90+n-1)] = api.Op{Name: fmt.Sprint("SWAP", n), Pops: n + 1, Pushes: n + 1, Gas: 3}
	}
	for n := 0; n <= 4; n++ {
		told[byte(0xa0+n)] = api.Op{Name: fmt.Sprint("LOG", n), Pops: n + 2, Gas: uint64(375 + 375*n)}
	}
	return told
}

// heads says of each byte of a code at which place the instruction stands that
// it is, or belongs to.
func heads(code []byte) []int {
	l := make([]int, len(code))
	head, left := 0, 0
	for i, x := range code {
		if left > 0 {
			left--
			l[i] = head
			continue
		}
		head, l[i] = i, i
		if 0x60 <= x && x <= 0x7f {
			left = int(x) - 0x60 + 1
		}
	}
	return l
}

func modelDests(code []byte) []int {
	var l []int
	for i, head := range heads(code) {
		if head == i && code[i] == 0x5b {
			l = append(l, i)
		}
	}
	return l
}

// modelText writes a line's beginning at each instruction, a pair of digits at
// each byte that belongs to one, and what ends a line where the next one begins.
func modelText(code []byte) string {
	var text strings.Builder
	for i, head := range heads(code) {
		if head != i {
			fmt.Fprintf(&text, "%02x", code[i])
			continue
		}
		if i > 0 {
			text.WriteString("\n")
		}
		name := fmt.Sprintf("0x%02x", code[i])
		if x, ok := all[code[i]]; ok {
			name = x.Name
		}
		fmt.Fprintf(&text, "%d %s", i, name)
		if all[code[i]].Data > 0 {
			text.WriteString(" 0x")
		}
	}
	if len(code) > 0 {
		text.WriteString("\n")
	}
	return text.String()
}

func small(n int) api.Word { return api.Word{uint64(n)} }

// moved are places that stand so many bytes farther behind.
func moved(l []int, by int) []int {
	var far []int
	for _, at := range l {
		far = append(far, at+by)
	}
	return far
}

// farOff are the words whose lowest bits are a place, and that are none of a
// code, as they are too great.
func farOff(at int) []api.Word {
	l := []api.Word{
		{1<<32 + uint64(at)}, {1<<63 + uint64(at)}, {1<<40 + uint64(at)}, {1<<63 + 1<<32 + uint64(at)},
		{-uint64(at) - 1}, {^uint64(0)}, {^uint64(0), ^uint64(0), ^uint64(0), ^uint64(0)},
		{uint64(at), ^uint64(0), ^uint64(0), ^uint64(0)}, {0, uint64(at) + 1}, {0, 0, uint64(at) + 1}, {0, 0, 0, uint64(at) + 1},
	}
	for bit := 64; bit < 256; bit++ {
		a := small(at)
		a[bit/64] = 1 << (bit % 64)
		l = append(l, a)
	}
	return l
}

// checkFar tells whether no place that is too great is a destination.
func checkFar(t *testing.T, code []byte) {
	t.Helper()
	for _, at := range append(modelDests(code), 0, 1, len(code)) {
		for _, a := range farOff(at) {
			if ops.Dest(code, a) {
				t.Fatalf("%x: Dest(%x)", code, a)
			}
		}
	}
}

// check tells whether a code's destinations and its text are the model's, with
// Dest at each place and behind the end.
func check(t *testing.T, code []byte) {
	t.Helper()
	checkWhole(t, code)
	want := modelDests(code)
	for at := range len(code) + 40 {
		if got := ops.Dest(code, small(at)); got != slices.Contains(want, at) {
			t.Fatalf("%x: Dest(%d) = %t", code, at, got)
		}
	}
}

// checkWhole is check, but for Dest.
func checkWhole(t *testing.T, code []byte) {
	t.Helper()
	before := bytes.Clone(code)
	if got, want := ops.Dests(code), modelDests(code); !slices.Equal(got, want) {
		t.Fatalf("%.200x: Dests = %.200v, want %.200v", code, got, want)
	}
	if got, want := ops.Text(code), modelText(code); got != want {
		t.Fatalf("%.200x: Text = %.500q, want %.500q", code, got, want)
	}
	if !bytes.Equal(code, before) {
		t.Fatalf("%.200x: changed to %.200x", before, code)
	}
}

// drawn is a code of n bytes, drawn from all of them, from those that make
// most of destinations and pushes, or from short pushes and what is about them.
func drawn(seed, n int) []byte {
	r := rand.New(rand.NewPCG(uint64(seed), uint64(n)))
	b := make([]byte, n)
	for i := range b {
		switch {
		case seed%3 == 0:
			b[i] = byte(r.IntN(256))
		case seed%3 == 1 && r.IntN(4) > 0:
			b[i] = 0x5b
		case seed%3 == 1:
			b[i] = byte(0x5e + r.IntN(0x24))
		default:
			b[i] = []byte{0x5b, 0x5b, 0x5f, 0x60, 0x61, 0x62, 0x63, 0x0c, 0x5a, 0x5c, 0x80}[r.IntN(11)]
		}
	}
	return b
}
