package evm_test

import (
	"math/rand/v2"
	"strconv"
	"strings"
	"testing"

	"smithy/addr"
	"smithy/alu"
	"smithy/api"
	"smithy/evm"
	"smithy/keccak"
	"smithy/ops"
	"smithy/state"
	"smithy/word"
)

func TestExample(t *testing.T) {
	code := "#600160005500"
	s, r := run(code, 100000)
	if !same(r, api.Result{OK: true, Left: 77894}) {
		t.Errorf("%+v", r)
	}
	a := account(0xaa, 7, code)
	a.Storage = []api.Slot{{Key: w(0), Value: w(1)}}
	changed(t, code, s, a)
}

// minus is a number below 0.
func minus(n uint64) api.Word { return word.Sub(api.Word{}, w(n)) }

func TestP181ReckoningAlone(t *testing.T) {
	high := word.Shl(w(1), 255)
	for _, x := range []struct {
		code string
		want api.Word
		gas  uint64
	}{
		{"2 3 ADD", w(5), 9},
		{text(allBits()) + " 2 ADD", w(1), 9},
		{"2 3 MUL", w(6), 11},
		{"2 7 SUB", w(5), 9},
		{"7 2 SUB", minus(5), 9},
		{"2 7 DIV", w(3), 11},
		{"0 7 DIV", w(0), 11},
		{"2 " + text(minus(7)) + " SDIV", minus(3), 11},
		{"4 7 MOD", w(3), 11},
		{"2 " + text(minus(7)) + " SMOD", minus(1), 11},
		{"8 10 11 ADDMOD", w(5), 17},
		{"2 2 " + text(allBits()) + " ADDMOD", w(1), 17},
		{"8 10 11 MULMOD", w(6), 17},
		{"3 2 " + text(high) + " MULMOD", w(1), 17},
		{"0 2 EXP", w(1), 16},
		{"3 2 EXP", w(8), 66},
		{"255 2 EXP", high, 66},
		{"256 2 EXP", w(0), 116},
		{text(high) + " 1 EXP", w(1), 6 + 10 + 32*50},
		{"255 0 SIGNEXTEND", allBits(), 11},
		{"127 0 SIGNEXTEND", w(127), 11},
		{"2 1 LT", w(1), 9},
		{"1 2 LT", w(0), 9},
		{"1 2 GT", w(1), 9},
		{"2 1 GT", w(0), 9},
		{"1 " + text(minus(1)) + " SLT", w(1), 9},
		{text(minus(1)) + " 1 SLT", w(0), 9},
		{text(minus(1)) + " 1 SGT", w(1), 9},
		{"1 " + text(minus(1)) + " SGT", w(0), 9},
		{"2 2 EQ", w(1), 9},
		{"2 3 EQ", w(0), 9},
		{"0 ISZERO", w(1), 6},
		{"3 ISZERO", w(0), 6},
		{"12 10 AND", w(8), 9},
		{"12 10 OR", w(14), 9},
		{"12 10 XOR", w(6), 9},
		{"0 NOT", allBits(), 6},
		{"258 31 BYTE", w(2), 9},
		{"258 30 BYTE", w(1), 9},
		{"258 32 BYTE", w(0), 9},
		{"3 8 SHL", w(768), 9},
		{"768 8 SHR", w(3), 9},
		{text(minus(8)) + " 1 SAR", minus(4), 9},
	} {
		puts(t, x.code, x.want)
		costs(t, x.code, x.gas)
	}
}

// What reckons takes its words from the top on, and leaves those below.
func TestP181ReckoningTakesFromTheTop(t *testing.T) {
	d := rand.New(rand.NewPCG(18, 1))
	for op := range 256 {
		n := alu.Takes(byte(op))
		if n == 0 {
			continue
		}
		for range 40 {
			var l [3]api.Word
			for i := range l {
				l[i] = api.Word{d.Uint64(), d.Uint64(), d.Uint64(), d.Uint64()}
				if d.IntN(2) == 0 {
					l[i] = w(d.Uint64N(40))
				}
			}
			code := "77 "
			for i := range n {
				code += text(l[n-1-i]) + " "
			}
			told, _ := ops.Info(byte(op))
			want, _ := alu.Do(byte(op), l[0], l[1], l[2])
			puts(t, code+told.Name, want)
			puts(t, code+told.Name+" POP", w(77))
		}
	}
}

func TestP181Push(t *testing.T) {
	puts(t, "PUSH0", w(0))
	costs(t, "PUSH0", 2)
	puts(t, "1 PUSH0 POP", w(1))
	bytes := "0102030405060708090a0b0c0d0e0f101112131415161718191a1b1c1d1e1fff"
	for n := 1; n <= 32; n++ {
		name := "PUSH" + strconv.Itoa(n)
		there := bytes[:2*n]
		puts(t, name+" #"+there, word.From(asm("#"+there)))
		costs(t, name+" #"+there, 3)
		for have := range n {
			truncated(t, name, bytes[:2*have])
		}
	}
}

// truncated tells of a PUSH whose bytes aren't all there. It is the last
// instruction of its code, so that nobody asks for the word that it puts: it
// is paid for, needs room, and the frame ends well behind it.
func truncated(t *testing.T, name, have string) {
	t.Helper()
	costs(t, name+" #"+have, 3)
	costs(t, strings.Repeat("0 ", 1023)+name+" #"+have, 3*1024)
	failing(t, strings.Repeat("0 ", 1024)+name+" #"+have, plenty)
}

func TestP181DupAndSwap(t *testing.T) {
	code := ""
	for n := 1; n <= 17; n++ {
		code = strconv.Itoa(n) + " " + code // 1 is on top
		pushed := uint64(3 * n)
		if n <= 16 {
			name := "DUP" + strconv.Itoa(n)
			puts(t, code+name, w(uint64(n)))
			puts(t, code+name+" POP", w(1))
			costs(t, code+name, pushed+3)
		}
		if n >= 2 {
			name := "SWAP" + strconv.Itoa(n-1)
			puts(t, code+name, w(uint64(n)))
			pops := ""
			for range n - 1 {
				pops += " POP"
			}
			puts(t, code+name+pops, w(1))
			if n > 2 {
				puts(t, code+name+" POP", w(2))
			}
			costs(t, code+name, pushed+3)
		}
	}
}

func TestP181StackAndPlaces(t *testing.T) {
	puts(t, "5 6 POP", w(5))
	costs(t, "5 POP", 5)
	puts(t, "PC", w(0))
	puts(t, "1 2 PC", w(4))
	puts(t, "PUSH32 #"+digits(1)+" PC", w(33))
	puts(t, "4 JUMP #fe JUMPDEST PC", w(5))
	costs(t, "PC", 2)
	puts(t, "JUMPDEST JUMPDEST PC", w(2))
	costs(t, "JUMPDEST", 1)
	_, r := run("GAS"+top, 1000)
	if word.From(r.Data) != w(998) {
		t.Errorf("GAS: %x", r.Data)
	}
	_, r = run("1 2 ADD GAS"+top, 1000)
	if word.From(r.Data) != w(989) {
		t.Errorf("GAS: %x", r.Data)
	}
	costs(t, "GAS", 2)
}

func TestP181Memory(t *testing.T) {
	puts(t, "MSIZE", w(0))
	costs(t, "MSIZE", 2)
	puts(t, "0 MLOAD MSIZE", w(32))
	puts(t, "1 MLOAD MSIZE", w(64))
	puts(t, "5 1000 MSTORE8 MSIZE", w(1024))
	puts(t, "5 0 MSTORE 0 MLOAD", w(5))
	puts(t, "5 1 MSTORE 0 MLOAD", word.Shr(w(5), 8))
	puts(t, "258 1 MSTORE 2 MLOAD", word.Shl(w(258), 8))
	puts(t, "258 31 MSTORE8 0 MLOAD", w(2))
	puts(t, text(allBits())+" 0 MSTORE 0 31 MSTORE8 0 MLOAD", word.Sub(allBits(), w(255)))
	puts(t, "7 MLOAD", w(0))
	well(t, text(allBits())+" 3 MSTORE 37 0 RETURN", "000000"+strings.Repeat("ff", 32)+"0000")
	for _, x := range []struct {
		code string
		gas  uint64
	}{
		{"0 MLOAD", 3 + 3 + 3},
		{"1 MLOAD", 3 + 3 + 6},
		{"0 MLOAD 0 MLOAD", 9 + 6},
		{"0 MLOAD 1 MLOAD", 9 + 9},
		{"5 0 MSTORE", 6 + 3 + 3},
		{"5 1 MSTORE", 6 + 3 + 6},
		{"5 0 MSTORE8", 6 + 3 + 3},
		{"5 31 MSTORE8", 6 + 3 + 3},
		{"5 32 MSTORE8", 6 + 3 + 6},
		{"32736 MLOAD", 3 + 3 + 3*1024 + 2048}, // 1024 words: the square counts
		{"736 MLOAD", 3 + 3 + 3*24 + 1},        // 24 words: 576 by 512
		{"672 MLOAD", 3 + 3 + 3*22 + 0},        // 22 words: 484 by 512
	} {
		costs(t, x.code, x.gas)
	}
}

func TestP181Keccak(t *testing.T) {
	puts(t, "0 0 KECCAK256", keccak.Word(nil))
	puts(t, "0 "+text(allBits())+" KECCAK256", keccak.Word(nil))
	puts(t, "0 "+text(allBits())+" KECCAK256 POP MSIZE", w(0))
	puts(t, text(allBits())+" 0 MSTORE 3 31 KECCAK256", keccak.Word([]byte{255, 0, 0}))
	puts(t, text(allBits())+" 0 MSTORE 3 31 KECCAK256 POP MSIZE", w(64))
	costs(t, "0 0 KECCAK256", 6+30)
	costs(t, "1 0 KECCAK256", 6+30+6+3)
	costs(t, "32 0 KECCAK256", 6+30+6+3)
	costs(t, "33 0 KECCAK256", 6+30+12+6)
	costs(t, "1 31 KECCAK256", 6+30+6+3)
	costs(t, "2 31 KECCAK256", 6+30+6+6)
}

// told are the instructions that take nothing and put what the frame, its
// message or the block is, with what that is in these tests.
func told(m api.Message, code string) map[string]api.Word {
	b := block()
	return map[string]api.Word{
		"ADDRESS": addr.Word(m.To), "ORIGIN": addr.Word(m.Origin), "CALLER": addr.Word(m.Caller),
		"CALLVALUE": m.Value, "CALLDATASIZE": w(uint64(len(m.Data))), "CODESIZE": w(uint64(len(asm(code)))),
		"GASPRICE": m.Price, "RETURNDATASIZE": w(0),
		"COINBASE": addr.Word(b.Coinbase), "TIMESTAMP": w(b.Time), "NUMBER": w(b.Number), "PREVRANDAO": b.Random,
		"GASLIMIT": w(b.GasLimit), "CHAINID": w(b.Chain), "BASEFEE": b.BaseFee,
	}
}

func TestP181Told(t *testing.T) {
	m := to(plenty)
	m.Value, m.Data = w(13), make([]byte, 300)
	for _, name := range sorted(told(m, "")) {
		code := name + top
		_, r := ran(usual(account(0xaa, 7, code)), m)
		if got, want := word.From(r.Data), told(m, code)[name]; !r.OK || got != want {
			t.Errorf("%s: %s, want %s", name, text(got), text(want))
		}
		costs(t, name, 2)
	}
	code := "SELFBALANCE" + top
	if _, r := ran(usual(account(0xaa, 7, code)), m); word.From(r.Data) != w(20) {
		t.Errorf("%s: %x", code, r.Data)
	}
	costs(t, "SELFBALANCE", 5)
}

// SELFBALANCE doesn't touch the account.
func TestP181SelfBalanceIsCold(t *testing.T) {
	s, _ := run("SELFBALANCE ADDRESS", plenty)
	warmed(t, "SELFBALANCE", s)
}

func TestP181BlockHash(t *testing.T) {
	number := block().Number
	for _, x := range []struct {
		n    api.Word
		want api.Word
	}{
		{w(number), w(0)},
		{w(number + 1), w(0)},
		{w(number - 1), wordOf(hashAhead(0))},
		{w(number - 2), wordOf(hashAhead(1))},
		{w(number - 255), wordOf(hashAhead(254))},
		{w(number - 256), wordOf(hashAhead(255))},
		{w(number - 257), w(0)},
		{w(0), w(0)},
		{word.Add(w(number-1), word.Shl(w(1), 64)), w(0)},
		{word.Add(w(number-1), word.Shl(w(1), 255)), w(0)},
		{allBits(), w(0)},
	} {
		puts(t, text(x.n)+" BLOCKHASH", x.want)
	}
	for _, x := range []struct{ number, hashes, n, want uint64 }{ // want is 0, or the how manyth hash
		{0, 1, 0, 0},
		{1, 1, 0, 1},
		{1, 0, 0, 0},
		{5, 1, 4, 1},
		{5, 1, 3, 0},
		{5, 2, 3, 2},
		{5, 4, 0, 0},
		{5, 5, 0, 5},
		{5, 9, 0, 5},
		{5, 9, 5, 0},
		{5, 9, 6, 0},
		{256, 300, 0, 256},
		{257, 300, 0, 0},
		{257, 300, 1, 256},
		{257, 255, 1, 0},
		{1<<64 - 1, 300, 1<<64 - 1, 0},
		{1<<64 - 1, 300, 1<<64 - 2, 1},
		{1<<64 - 1, 300, 0, 0},
	} {
		b := block()
		b.Number, b.Hashes = x.number, b.Hashes[:x.hashes]
		s := state.New(state.List([]api.Account{account(0xaa, 0, text(w(x.n))+" BLOCKHASH"+top)}))
		want := api.Word{}
		if x.want > 0 {
			want = wordOf(hashAhead(x.want - 1))
		}
		if r := evm.Run(s, b, to(plenty)); !r.OK || word.From(r.Data) != want {
			t.Errorf("BLOCKHASH of %d in block %d with %d hashes: %x", x.n, x.number, x.hashes, r.Data)
		}
	}
	for _, n := range []api.Word{word.Shl(w(1), 64), word.Add(word.Shl(w(1), 64), w(4)), word.Shl(w(1), 192), minus(1)} {
		b := block()
		b.Number = 5
		s := state.New(state.List([]api.Account{account(0xaa, 0, text(n)+" BLOCKHASH"+top)}))
		if r := evm.Run(s, b, to(plenty)); !r.OK || word.From(r.Data) != w(0) {
			t.Errorf("BLOCKHASH of %s in block 5: %x", text(n), r.Data)
		}
	}
	costs(t, "999 BLOCKHASH", 23)
	costs(t, "0 BLOCKHASH", 23)
}

// wordOf is a hash as a word.
func wordOf(h api.Hash) api.Word { return word.From(h[:]) }
