package evm_test

import (
	"bytes"
	"fmt"
	"strconv"
	"strings"
	"testing"

	"smithy/api"
	"smithy/ops"
	"smithy/word"
)

func TestP181End(t *testing.T) {
	for _, code := range []string{"", "STOP", "STOP #fe", "1", "JUMPDEST", "1 STOP 2 #fe", "5 0 MSTORE", "5 0 MSTORE STOP"} {
		if _, r := run(code, plenty); !r.OK || r.Reverted || len(r.Data) != 0 {
			t.Errorf("%q: %+v", code, r)
		}
	}
	costs2 := func(code string) {
		if _, r := run(code, 0); !same(r, api.Result{OK: true}) {
			t.Errorf("%q without gas: %+v", code, r)
		}
		if _, r := run(code, plenty); !same(r, api.Result{OK: true, Left: plenty}) {
			t.Errorf("%q: %+v", code, r)
		}
	}
	costs2("")
	costs2("STOP")
	costs2("STOP #fe")
}

func TestP181NoInstruction(t *testing.T) {
	none := 0
	for op := range 256 {
		told, ok := ops.Info(byte(op))
		if ok && told.Name != "INVALID" {
			continue
		}
		none++
		b := fmt.Sprintf("#%02x", op)
		failing(t, b, plenty)
		failing(t, b+" STOP", plenty)
		failing(t, "1 2 3 4 5 6 7 8 "+b, plenty)
		failing(t, "1 0 SSTORE "+b, plenty)
	}
	if none < 90 {
		t.Errorf("%d are none", none)
	}
}

// noughts pushes so many words 0.
func noughts(n int) string { return strings.Repeat("PUSH0 ", n) }

// goes tells whether an instruction goes well on words 0.
func goes(name string) bool { return name != "JUMP" && name != "REVERT" && name != "INVALID" }

func TestP181TooFewWords(t *testing.T) {
	for op := range 256 {
		told, ok := ops.Info(byte(op))
		if !ok || !goes(told.Name) {
			continue
		}
		if _, r := run(noughts(told.Pops)+told.Name, plenty); !r.OK {
			t.Errorf("%s of %d words: %+v", told.Name, told.Pops, r)
		}
		for n := range told.Pops {
			failing(t, noughts(n)+told.Name, plenty)
		}
	}
	failing(t, "0 JUMPI", plenty)
	failing(t, "0 REVERT", plenty)
	failing(t, "REVERT", plenty)
	failing(t, "JUMP", plenty)
}

func TestP181TooManyWords(t *testing.T) {
	for op := range 256 {
		told, ok := ops.Info(byte(op))
		if !ok || !goes(told.Name) {
			continue
		}
		more := told.Pushes - told.Pops
		if _, r := run(noughts(1024-max(more, 0))+told.Name, plenty); !r.OK {
			t.Errorf("%s that leaves 1024 words at most: %+v", told.Name, r)
		}
		if more > 0 {
			failing(t, noughts(1024)+told.Name, plenty)
			failing(t, noughts(1024)+told.Name+" POP", plenty)
		}
	}
	failing(t, noughts(1025), plenty)
	costs(t, noughts(1024), 2048)
	costs(t, noughts(1024)+"POP PUSH0", 2052)
}

// Code that reaches memory: {} is a place, and ## are its last bytes.
type reaching struct {
	code  string
	bytes uint64 // how many it reaches from the place on
	price uint64 // of all but the memory
}

// reaches are all instructions that reach memory from a place {} on. Those of
// calls ask for no gas, and are of an account that isn't there.
func reaches() []reaching {
	return []reaching{
		{"{} MLOAD", 32, 6},
		{"0 {} MSTORE", 32, 9},
		{"0 {} MSTORE8", 1, 9},
		{"1 {} KECCAK256", 1, 6 + 36},
		{"40 {} KECCAK256", 40, 6 + 42},
		{"1 {} RETURN", 1, 6},
		{"1 0 {} CALLDATACOPY", 1, 9 + 3 + 3},
		{"33 0 {} CODECOPY", 33, 9 + 3 + 6},
		{"1 0 {} @77 EXTCODECOPY", 1, 12 + 2600 + 3},
		{"1 {} LOG0", 1, 6 + 375 + 8},
		{"0 2 {} LOG1", 2, 9 + 750 + 16},
		{"0 0 1 {} 0 @77 0 CALL", 1, 21 + 2600},
		{"1 {} 0 0 0 @77 0 CALL", 1, 21 + 2600},
		{"0 0 1 {} 0 @77 0 CALLCODE", 1, 21 + 2600},
		{"1 {} 0 0 0 @77 0 CALLCODE", 1, 21 + 2600},
		{"0 0 1 {} @77 0 DELEGATECALL", 1, 18 + 2600},
		{"1 {} 0 0 @77 0 DELEGATECALL", 1, 18 + 2600},
		{"0 0 1 {} @77 0 STATICCALL", 1, 18 + 2600},
		{"1 {} 0 0 @77 0 STATICCALL", 1, 18 + 2600},
	}
}

// memoryPrice is what a length costs, by words worked out here.
func memoryPrice(n uint64) uint64 {
	words := (n + 31) / 32
	return 3*words + words*words/512
}

func with(code string, place api.Word) string {
	return strings.ReplaceAll(code, "{}", text(place))
}

func TestP181MemoryIsPaidFor(t *testing.T) {
	for _, x := range reaches() {
		for _, place := range []uint64{0, 1, 31, 32, 63, 64, 700, 5000, 65536} {
			costs(t, with(x.code, w(place)), x.price+memoryPrice(place+x.bytes))
		}
	}
	// What is reached already isn't paid for again.
	for _, x := range reaches() {
		for _, place := range []uint64{0, 1, 100} {
			costs(t, "0 1000 MSTORE "+with(x.code, w(place)), 9+memoryPrice(1032)+x.price)
		}
	}
}

func TestP181MemoryIsRefused(t *testing.T) {
	for _, x := range reaches() {
		last := api.MaxMemory - x.bytes
		costs(t, with(x.code, w(last)), x.price+33947648)
		for _, place := range []api.Word{
			w(last + 1), w(last + 31), w(last + 32), w(api.MaxMemory), w(api.MaxMemory + 1), w(1 << 32), w(1<<32 + 1),
			w(1<<63 - 1), w(1 << 63), w(1<<64 - 1), w(^x.bytes + 1), word.Shl(w(1), 64), word.Shl(w(1), 128),
			word.Shl(w(1), 255), minus(1), minus(x.bytes), minus(32),
		} {
			failing(t, with(x.code, place), 1<<40)
		}
	}
}

// lengths are codes whose length {} is of the memory, at place 0.
func lengths() []string {
	return []string{
		"{} 0 KECCAK256", "{} 0 RETURN", "{} 0 REVERT", "{} 0 0 CALLDATACOPY", "{} 0 0 CODECOPY", "{} 0 0 @77 EXTCODECOPY",
		"{} 0 LOG0", "0 0 0 0 {} 0 LOG4", "0 0 {} 0 0 @77 0 CALL", "{} 0 0 0 0 @77 0 CALL", "0 0 {} 0 0 @77 0 CALLCODE",
		"{} 0 0 0 0 @77 0 CALLCODE", "0 0 {} 0 @77 0 DELEGATECALL", "{} 0 0 0 @77 0 DELEGATECALL",
		"0 0 {} 0 @77 0 STATICCALL", "{} 0 0 0 @77 0 STATICCALL", "{} 0 0 CREATE", "0 {} 0 0 CREATE2",
	}
}

func TestP181LengthIsRefused(t *testing.T) {
	for _, code := range lengths() {
		for _, n := range []api.Word{
			w(api.MaxMemory + 1), w(1 << 32), w(1<<63 - 1), w(1 << 63), w(1<<64 - 1), word.Shl(w(1), 64), word.Shl(w(1), 64+5),
			word.Shl(w(1), 255), minus(1),
		} {
			failing(t, with(code, n), 1<<40)
		}
	}
}

// No bytes are reached at any place.
func TestP181NoBytesAnywhere(t *testing.T) {
	for _, code := range []string{
		"0 {} KECCAK256", "0 {} {} CALLDATACOPY", "0 {} {} CODECOPY", "0 {} {} @77 EXTCODECOPY", "0 0 {} RETURNDATACOPY",
		"0 {} LOG0", "0 {} 0 {} 0 @77 0 CALL", "0 {} 0 {} 0 @77 0 CALLCODE", "0 {} 0 {} @77 0 DELEGATECALL",
		"0 {} 0 {} @77 0 STATICCALL", "0 {} 0 CREATE", "7 0 {} 0 CREATE2",
	} {
		for _, place := range []api.Word{w(0), w(1), w(api.MaxMemory), w(1 << 32), w(1<<64 - 1), word.Shl(w(1), 64), word.Shl(w(1), 255), minus(1)} {
			puts(t, with(code, place)+" MSIZE", w(0))
		}
	}
	for _, place := range []api.Word{w(1), w(api.MaxMemory), w(1<<64 - 1), word.Shl(w(1), 255), minus(1)} {
		costs(t, "0 "+text(place)+" RETURN", 6)
		if _, r := run("0 "+text(place)+" REVERT", plenty); !same(r, api.Result{Reverted: true, Left: plenty - 6}) {
			t.Errorf("REVERT of no bytes: %+v", r)
		}
	}
}

func TestP181ReturnAndRevert(t *testing.T) {
	well(t, "0 0 RETURN", "")
	well(t, "RETURNDATASIZE RETURNDATASIZE RETURN #fe", "")
	well(t, "258 0 MSTORE 2 30 RETURN", "0102")
	well(t, "258 0 MSTORE 4 30 RETURN", "01020000")
	well(t, "3 100 RETURN", "000000")
	for _, x := range []struct {
		code, want string
		gas        uint64
	}{
		{"0 0 REVERT", "", 6},
		{"258 0 MSTORE 2 30 REVERT", "\x01\x02", 9 + 3 + 6},
		{"258 0 MSTORE 4 30 REVERT", "\x01\x02\x00\x00", 9 + 3 + 3 + 6},
		{"3 100 REVERT", "\x00\x00\x00", 6 + memoryPrice(103)},
	} {
		for _, more := range []uint64{0, 1, plenty} {
			s, r := run(x.code, x.gas+more)
			if !same(r, api.Result{Reverted: true, Left: more, Data: []byte(x.want)}) {
				t.Errorf("%s: %+v", x.code, r)
			}
			unchanged(t, x.code, s)
		}
		failing(t, x.code, x.gas-1)
	}
}

func TestP181Jump(t *testing.T) {
	for _, code := range []string{
		"4 JUMP #fe JUMPDEST",
		"1 6 JUMPI #fe JUMPDEST",
		text(minus(1)) + " 37 JUMPI #fe JUMPDEST",
		text(word.Shl(w(1), 255)) + " 37 JUMPI #fe JUMPDEST",
		text(word.Shl(w(1), 64)) + " 14 JUMPI #fe JUMPDEST",
		"0 0 JUMPI", // it doesn't jump, and so may have any place
		"0 1 JUMPI",
		"0 6 JUMPI PUSH1 #5b",
		"0 " + text(minus(1)) + " JUMPI",
		"PUSH2 #0005 JUMP #fe JUMPDEST",
		"6 JUMP #fe #605b JUMPDEST",
		"PUSH32 #" + digits(35) + " JUMP #fe JUMPDEST STOP",
		"5 JUMP #60 #5b5b", // the second one is behind what belongs to the PUSH1
		"6 JUMP #61 #5b5b JUMPDEST",
	} {
		if _, r := run(code, plenty); !r.OK {
			t.Errorf("%s: %+v", code, r)
		}
	}
	for _, code := range []string{
		"3 JUMP", // the code's end
		"4 JUMP", // beyond it
		"0 JUMP", // a PUSH1
		"2 JUMP", // the JUMP
		"3 JUMP STOP JUMPDEST",
		"1 0 JUMPI", "1 4 JUMPI", "1 5 JUMPI", "1 6 JUMPI STOP",
		"91 1 JUMP",           // 5b, that belongs to a PUSH1
		"1 6 JUMPI PUSH1 #5b", // likewise
		"5 JUMP #fe #605b JUMPDEST",
		"4 JUMP #60 #5b",       // likewise
		"4 JUMP #61 #5b5b",     // the first one of two
		"5 JUMP #61 #5b5b",     // the second one
		"4 JUMP #7f #5b",       // of a PUSH32 that isn't all there
		"5 JUMP #7f #5b5b5b00", // likewise
		text(w(1<<32+6)) + " JUMP JUMPDEST",
		text(w(1<<63)) + " JUMP JUMPDEST",
		text(w(1<<63+10)) + " JUMP JUMPDEST",
		text(w(1<<64-1)) + " JUMP JUMPDEST",
		text(word.Add(word.Shl(w(1), 64), w(11))) + " JUMP JUMPDEST",
		text(word.Add(word.Shl(w(1), 255), w(34))) + " JUMP JUMPDEST",
		text(minus(1)) + " JUMP JUMPDEST",
	} {
		failing(t, code, plenty)
	}
	// The place 0 is a destination, but no greater place is taken for it.
	puts(t, "JUMPDEST MSIZE ISZERO ISZERO 15 JUMPI 1 0 MSTORE 0 JUMP JUMPDEST MSIZE", w(32))
	for _, place := range []api.Word{word.Shl(w(1), 64), word.Shl(w(1), 128), word.Shl(w(1), 255), w(1 << 32), w(1 << 63)} {
		code := "JUMPDEST MSIZE ISZERO ISZERO PUSH1 #{} JUMPI 1 0 MSTORE " + text(place) + " JUMP JUMPDEST"
		end := fmt.Sprintf("%02x", len(asm(strings.Replace(code, "{}", "00", 1)))-1)
		failing(t, strings.Replace(code, "{}", end, 1), plenty)
	}
	costs(t, "3 JUMP JUMPDEST", 3+8+1)
	costs(t, "1 5 JUMPI JUMPDEST", 6+10+1)
	costs(t, "0 5 JUMPI", 6+10)
	costs(t, "0 6 JUMPI JUMPDEST", 6+10+1)
	// It goes back four times.
	puts(t, "4 JUMPDEST 1 SWAP1 SUB DUP1 2 JUMPI", w(0))
	costs(t, "4 JUMPDEST 1 SWAP1 SUB DUP1 2 JUMPI", 3+4*(1+3+3+3+3+3+10))
}

// places of an input, and what has 40 bytes.
func places40() []api.Word {
	return []api.Word{
		w(0), w(1), w(8), w(9), w(31), w(39), w(40), w(41), w(1 << 32), w(1<<63 - 1), w(1 << 63), w(1<<64 - 32), w(1<<64 - 1),
		word.Shl(w(1), 64), word.Add(word.Shl(w(1), 64), w(1)), word.Shl(w(1), 255), minus(32), minus(1),
	}
}

// counted are n bytes, from 1 on.
func counted(n int) []byte {
	b := make([]byte, n)
	for i := range b {
		b[i] = byte(i + 1)
	}
	return b
}

// cut are n bytes of b from a place on, and noughts.
func cut(b []byte, from api.Word, n int) []byte {
	l := make([]byte, n)
	for i := range l {
		place := word.Add(from, w(uint64(i)))
		if word.Compare(place, from) >= 0 && word.Compare(place, w(uint64(len(b)))) < 0 {
			l[i] = b[place[0]]
		}
	}
	return l
}

func TestP181CallDataLoad(t *testing.T) {
	for _, size := range []int{0, 1, 31, 32, 33, 40, 64} {
		for _, place := range places40() {
			m := to(plenty)
			m.Data = counted(size)
			_, r := ran(usual(account(0xaa, 7, text(place)+" CALLDATALOAD"+top)), m)
			if want := cut(m.Data, place, 32); !r.OK || !bytes.Equal(r.Data, want) {
				t.Errorf("CALLDATALOAD of %s of %d bytes: %x, want %x", text(place), size, r.Data, want)
			}
		}
	}
	costs(t, "0 CALLDATALOAD", 6)
	costs(t, text(minus(1))+" CALLDATALOAD", 6)
}

// copies tells what an instruction copies: the code is run behind another one,
// its source has the bytes, and it costs so much.
func copies(t *testing.T, before, account, name string, source func(code []byte) []byte, price uint64) {
	t.Helper()
	for _, place := range []int{0, 1, 31, 33, 64, 200} {
		for _, from := range places40() {
			for _, n := range []int{0, 1, 31, 32, 33, 40, 64, 70} {
				code := before + text(allBits()) + " 0 MSTORE " + text(allBits()) + " 32 MSTORE " +
					strconv.Itoa(n) + " " + text(from) + " " + strconv.Itoa(place) + " " + account + name
				want := bytes.Repeat([]byte{255}, 64)
				for n > 0 && len(want) < place+n {
					want = append(want, make([]byte, 32)...)
				}
				copy(want[min(place, len(want)):], cut(source(asm(code+" MSIZE 0 RETURN")), from, n))
				gas := uint64(3 * ((n + 31) / 32))
				copied(t, code, want, price+gas+memoryPrice(uint64(len(want))))
			}
		}
	}
}

// copied tells whether a code ends with this memory, and costs so much beside
// seven words, of which six are pushed, and two stores.
func copied(t *testing.T, code string, want []byte, gas uint64) {
	t.Helper()
	m := to(plenty)
	m.Data = counted(40)
	l := usual(account(0xaa, 7, code+" MSIZE 0 RETURN"), api.Account{Address: at(0x40), Code: counted(40)})
	_, r := ran(l, m)
	if !r.OK || !bytes.Equal(r.Data, want) || plenty-r.Left != gas+7*3+2*3+5 {
		t.Errorf("%s:\n%x, %d\nwant\n%x, %d", code, r.Data, plenty-r.Left, want, gas+7*3+2*3+5)
	}
}

func TestP181Copies(t *testing.T) {
	input := func([]byte) []byte { return counted(40) }
	copies(t, "", "", "CALLDATACOPY", input, 3)
	copies(t, "", "", "CODECOPY", func(code []byte) []byte { return code }, 3)
	copies(t, "", "@40 ", "EXTCODECOPY", input, 3+2600)
	copies(t, "", "@77 ", "EXTCODECOPY", func([]byte) []byte { return nil }, 3+2600)
	copies(t, "@40 EXTCODESIZE POP ", "@40 ", "EXTCODECOPY", input, 3+100+3+2600+2)
	copies(t, "", "ADDRESS ", "EXTCODECOPY", func(code []byte) []byte { return code }, 2+2600)
	copies(t, "", text(word.Add(word.Shl(w(1), 160), w(0x40)))+" ", "EXTCODECOPY", input, 3+2600)
}

func TestP181CopiesCost(t *testing.T) {
	costs(t, "0 0 0 CALLDATACOPY", 12)
	costs(t, "1 0 0 CALLDATACOPY", 12+3+3)
	costs(t, "32 0 0 CODECOPY", 12+3+3)
	costs(t, "33 0 0 CODECOPY", 12+6+6)
	costs(t, "0 0 0 @77 EXTCODECOPY", 12+2600)
	costs(t, "0 0 0 @77 EXTCODECOPY 33 0 0 @77 EXTCODECOPY", 24+2600+100+6+6)
	costs(t, "1024 0 0 CALLDATACOPY", 12+96+98)
}

// The code of the call that answers 40 bytes, counted, as what was answered.
const answering = "40 0 0 CALLDATACOPY 40 0 RETURN"

func TestP181ReturnDataCopy(t *testing.T) {
	call := "0 0 40 0 @44 100000 STATICCALL POP "
	fill := "40 0 0 CALLDATACOPY "
	for _, x := range []struct {
		to, from, n uint64
		fails       bool
	}{
		{0, 0, 0, false}, {0, 40, 0, false}, {5, 39, 1, false}, {5, 0, 40, false}, {70, 1, 39, false}, {0, 8, 32, false},
		{0, 41, 0, true}, {0, 40, 1, true}, {0, 39, 2, true}, {0, 0, 41, true}, {0, 1, 40, true}, {0, 1 << 32, 0, true},
		{0, 1<<64 - 1, 1, true}, {0, 1<<64 - 1, 2, true}, {0, 1<<63 - 1, 0, true}, {0, 1 << 63, 0, true},
	} {
		code := fill + call + text(w(x.n)) + " " + text(w(x.from)) + " " + text(w(x.to)) + " RETURNDATACOPY"
		m := to(plenty)
		m.Data = counted(40)
		_, r := ran(usual(account(0xaa, 7, code+fourth), account(0x44, 0, answering)), m)
		want := make([]byte, 128)
		copy(want, counted(40))
		if !x.fails {
			copy(want[x.to:], counted(40)[x.from:x.from+x.n])
		}
		if r.OK == x.fails || r.OK && !bytes.Equal(r.Data, want) || !r.OK && !same(r, api.Result{}) {
			t.Errorf("%s: %+v", code, r)
		}
	}
}

// A sum that goes round isn't within what was answered.
func TestP181ReturnDataCopyGoesRound(t *testing.T) {
	call := "0 0 0 0 @bb 100000 STATICCALL POP "
	for _, l := range [][2]api.Word{
		{minus(1), w(1)}, {minus(1), w(2)}, {w(1), minus(1)}, {minus(32), w(64)}, {word.Shl(w(1), 255), word.Shl(w(1), 255)},
		{word.Shl(w(1), 64), w(0)}, {word.Shl(w(1), 128), w(1)}, {w(0), word.Shl(w(1), 64)}, {minus(1), w(0)},
	} {
		failing(t, call+text(l[1])+" "+text(l[0])+" 0 RETURNDATACOPY", plenty)
		failing(t, text(l[1])+" "+text(l[0])+" 0 RETURNDATACOPY", plenty)
	}
	failing(t, "1 0 0 RETURNDATACOPY", plenty)
	failing(t, "0 1 0 RETURNDATACOPY", plenty)
	costs(t, "0 0 0 RETURNDATACOPY", 12)
	puts(t, call+"RETURNDATASIZE", w(32))
	puts(t, call+"32 0 0 RETURNDATACOPY 0 MLOAD", w(42))
	// bb costs 3 and 3 (pushes), 6 (store with memory), 3 and 3 (pushes)
	before := uint64(6*3+2+2600) + 18
	costs(t, call, before)
	costs(t, call+"32 0 0 RETURNDATACOPY", before+12+3+3)
	costs(t, call+"31 1 33 RETURNDATACOPY", before+12+3+6)
}
