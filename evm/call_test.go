package evm_test

import (
	"bytes"
	"encoding/hex"
	"fmt"
	"slices"
	"strings"
	"testing"

	"smithy/addr"
	"smithy/api"
	"smithy/evm"
	"smithy/gas"
	"smithy/modexp"
	"smithy/sha"
	"smithy/state"
	"smithy/word"
)

// kinds are the instructions that call.
var kinds = []string{"CALL", "CALLCODE", "DELEGATECALL", "STATICCALL"}

// callTo is the code of a call with a gas, as a text, an input of so many bytes
// at a place, and so many for the answer at another one. A value counts for
// those that take one.
func callTo(kind string, to byte, gas string, value, inAt, in, outAt, out int) string {
	code := fmt.Sprintf("%d %d %d %d ", out, outAt, in, inAt)
	if kind == "CALL" || kind == "CALLCODE" {
		code += fmt.Sprintf("%d ", value)
	}
	return code + fmt.Sprintf("@%02x %s %s ", to, gas, kind)
}

// plain is a call without a value, an input, and place for an answer.
func plain(kind string, to byte) string { return callTo(kind, to, "100000", 0, 0, 0, 0, 0) }

// pushed is what callTo pushes, in words.
func pushed(kind string) uint64 {
	if kind == "CALL" || kind == "CALLCODE" {
		return 7
	}
	return 6
}

func TestP181CallsPutOne(t *testing.T) {
	for _, kind := range kinds {
		puts(t, plain(kind, 0xbb), w(1))
		puts(t, plain(kind, 0xbb)+"RETURNDATASIZE", w(32))
		puts(t, plain(kind, 0x77), w(1))
		puts(t, plain(kind, 0xee)+"RETURNDATASIZE", w(0))
		puts(t, "77 "+plain(kind, 0xbb)+"POP", w(77))
		// bb's code costs 3 pushes of 3, another one of 3, and 6.
		takes(t, plain(kind, 0xbb), 3*pushed(kind)+2600+18)
		takes(t, plain(kind, 0xbb)+plain(kind, 0xbb), 6*pushed(kind)+2600+100+36)
		costs(t, plain(kind, 0x77), 3*pushed(kind)+2600)
		costs(t, plain(kind, 0xee), 3*pushed(kind)+2600)
	}
}

// whoCode answers what a frame is told: its account, caller, value, input's and
// code's length, origin, price, balance.
const whoCode = "ADDRESS 0 MSTORE CALLER 32 MSTORE CALLVALUE 64 MSTORE CALLDATASIZE 96 MSTORE " +
	"CODESIZE 128 MSTORE ORIGIN 160 MSTORE GASPRICE 192 MSTORE SELFBALANCE 224 MSTORE 256 0 RETURN"

func TestP181WhoseFrame(t *testing.T) {
	m := to(plenty)
	m.Value = w(13)
	for _, x := range []struct {
		kind                   string
		value                  int
		account, caller        byte
		wantValue, wantBalance uint64
	}{
		{"CALL", 0, 0x40, 0xaa, 0, 50},
		{"CALL", 3, 0x40, 0xaa, 3, 53},
		{"CALLCODE", 0, 0xaa, 0xaa, 0, 20},
		{"CALLCODE", 3, 0xaa, 0xaa, 3, 20},
		{"DELEGATECALL", 0, 0xaa, 0xdd, 13, 20},
		{"STATICCALL", 0, 0x40, 0xaa, 0, 50},
	} {
		code := callTo(x.kind, 0x40, "100000", x.value, 5, 33, 64, 256) + "0 MSTORE 320 0 RETURN"
		l := usual(account(0xaa, 7, code), account(0x40, 50, whoCode))
		s, r := ran(l, m)
		want := ""
		for _, a := range []api.Word{
			w(1), w(0), w(uint64(x.account)), w(uint64(x.caller)), w(x.wantValue), w(33), w(uint64(len(asm(whoCode)))),
			addr.Word(m.Origin), m.Price, w(x.wantBalance),
		} {
			b := word.Bytes(a)
			want += hex.EncodeToString(b[:])
		}
		if got := hex.EncodeToString(r.Data); !r.OK || got != want {
			t.Errorf("%s with %d:\n%s\nwant\n%s", x.kind, x.value, got, want)
		}
		warmed(t, x.kind, s, 0x40)
	}
}

// A frame two calls deep: its account, caller and value.
func TestP181WhoseFrameTwoDeep(t *testing.T) {
	for _, x := range []struct {
		outer, inner    string
		account, caller byte
		value           uint64
	}{
		{"CALL", "CALL", 0x40, 0xbb, 2},
		{"CALL", "CALLCODE", 0xbb, 0xbb, 2},
		{"CALL", "DELEGATECALL", 0xbb, 0xaa, 1},
		{"CALL", "STATICCALL", 0x40, 0xbb, 0},
		{"CALLCODE", "CALL", 0x40, 0xaa, 2},
		{"CALLCODE", "CALLCODE", 0xaa, 0xaa, 2},
		{"CALLCODE", "DELEGATECALL", 0xaa, 0xaa, 1},
		{"CALLCODE", "STATICCALL", 0x40, 0xaa, 0},
		{"DELEGATECALL", "CALL", 0x40, 0xaa, 2},
		{"DELEGATECALL", "CALLCODE", 0xaa, 0xaa, 2},
		{"DELEGATECALL", "DELEGATECALL", 0xaa, 0xdd, 13},
		{"DELEGATECALL", "STATICCALL", 0x40, 0xaa, 0},
		{"STATICCALL", "CALLCODE", 0xbb, 0xbb, 2},
		{"STATICCALL", "DELEGATECALL", 0xbb, 0xaa, 0},
		{"STATICCALL", "STATICCALL", 0x40, 0xbb, 0},
	} {
		m := to(plenty)
		m.Value = w(13)
		l := usual(
			account(0xaa, 7, callTo(x.outer, 0xbb, "100000", 1, 0, 0, 0, 96)+"96 0 RETURN"),
			account(0x40, 50, whoCode))
		l[2].Code, l[2].Balance = asm(callTo(x.inner, 0x40, "100000", 2, 0, 0, 0, 96)+"96 0 RETURN"), w(5)
		_, r := ran(l, m)
		want := digits(uint64(x.account)) + digits(uint64(x.caller)) + digits(x.value)
		if got := hex.EncodeToString(r.Data); !r.OK || got != want {
			t.Errorf("%s, %s:\n%s\nwant\n%s", x.outer, x.inner, got, want)
		}
	}
}

func TestP181WhoseStorage(t *testing.T) {
	for _, x := range []struct {
		kind string
		n    byte
	}{{"CALL", 0x40}, {"CALLCODE", 0xaa}, {"DELEGATECALL", 0xaa}} {
		l := usual(account(0xaa, 7, plain(x.kind, 0x40)), account(0x40, 50, "3 2 SSTORE 0 0 LOG0"))
		s, r := ran(l, to(plenty))
		i := slices.IndexFunc(l, func(a api.Account) bool { return a.Address == at(x.n) })
		want := l[i]
		want.Storage = []api.Slot{{Key: w(2), Value: w(3)}}
		changed(t, x.kind, s, want)
		logged(t, x.kind, s, api.Log{Address: at(x.n)})
		if !r.OK || s.TouchSlot(at(x.n), w(2)) {
			t.Errorf("%s: %+v", x.kind, r)
		}
	}
}

func TestP181Input(t *testing.T) {
	echo := account(0x40, 0, "CALLDATASIZE 0 0 CALLDATACOPY CALLDATASIZE 0 RETURN")
	for _, kind := range kinds {
		for _, x := range []struct{ inAt, in int }{{0, 0}, {0, 1}, {31, 2}, {3, 64}, {60, 50}, {1000, 0}} {
			code := text(allBits()) + " 0 MSTORE 258 32 MSTORE " + callTo(kind, 0x40, "100000", 0, x.inAt, x.in, 128, 128) +
				"RETURNDATASIZE 256 MSTORE 160 128 RETURN"
			_, r := ran(usual(account(0xaa, 7, code), echo), to(plenty))
			memory := make([]byte, 1200)
			copy(memory, bytes.Repeat([]byte{255}, 32))
			memory[62], memory[63] = 1, 2
			want := make([]byte, 160)
			copy(want, memory[x.inAt:x.inAt+x.in])
			want[159] = byte(x.in)
			if !r.OK || !bytes.Equal(r.Data, want) {
				t.Errorf("%s of %d bytes at %d:\n%x\nwant\n%x", kind, x.in, x.inAt, r.Data, want)
			}
		}
	}
}

// The price of calls, beside seven pushes, to an account without a code.
func TestP181CallValueCosts(t *testing.T) {
	for _, x := range []struct {
		kind  string
		to    byte
		value int
		price uint64
	}{
		{"CALL", 0xee, 0, 2600}, {"CALL", 0xee, 3, 2600 + 9000 - 2300},
		{"CALL", 0x77, 0, 2600}, {"CALL", 0x77, 3, 2600 + 9000 + 25000 - 2300},
		{"CALLCODE", 0xee, 3, 2600 + 9000 - 2300}, {"CALLCODE", 0x77, 3, 2600 + 9000 - 2300},
		{"CALLCODE", 0x77, 0, 2600},
		{"CALL", 0xee, 7, 2600 + 9000 - 2300},
	} {
		code := callTo(x.kind, x.to, "0", x.value, 0, 0, 0, 0)
		s, r := run(code, plenty)
		if !r.OK || plenty-r.Left != 21+x.price {
			t.Errorf("%s: %d, want %d", code, plenty-r.Left, 21+x.price)
		}
		if x.kind == "CALL" && x.value > 0 {
			aa, to := account(0xaa, 7-uint64(x.value), code), account(x.to, uint64(x.value), "")
			if x.to == 0xee {
				to.Balance = w(9 + uint64(x.value))
			}
			changed(t, code, s, aa, to)
		} else {
			changed(t, code, s)
		}
		more := uint64(0)
		if x.value > 0 {
			more = 2300
		}
		// It must be there ahead, though it comes back.
		if _, r := run(code, 21+x.price+more); !r.OK || r.Left != more {
			t.Errorf("%s with just enough: %+v", code, r)
		}
		failing(t, code, 21+x.price+more-1)
		if s.Touch(at(x.to)) {
			t.Errorf("%s: %x is cold", code, x.to)
		}
	}
	// An account that has but a nonce, or a code, isn't empty.
	for _, a := range []api.Account{{Address: at(0x77), Nonce: 1}, {Address: at(0x77), Code: []byte{0}}} {
		code := callTo("CALL", 0x77, "0", 3, 0, 0, 0, 0)
		_, r := ran(usual(account(0xaa, 7, code), a), to(plenty))
		if plenty-r.Left != 21+2600+9000-2300 {
			t.Errorf("%v: %d", a, plenty-r.Left)
		}
	}
}

// gasCode answers the gas that is left behind its first instruction.
const gasCode = "GAS" + top

// askedOf are gases that may be asked for, when so much is left.
func askedOf(left uint64) []api.Word {
	most := gas.Part(left)
	return []api.Word{
		w(0), w(1), w(1000), w(most - 1), w(most), w(most + 1), w(left), w(left + 1), w(1<<64 - 1), word.Shl(w(1), 64),
		word.Add(word.Shl(w(1), 64), w(1000)), word.Shl(w(1), 255), minus(1),
	}
}

func TestP181GivenGas(t *testing.T) {
	for _, kind := range kinds {
		for _, value := range []int{0, 3} {
			if value > 0 && pushed(kind) < 7 {
				continue
			}
			price, more := uint64(2600), uint64(0)
			if value > 0 {
				price, more = 2600+9000, 2300
			}
			for _, ahead := range []uint64{50000, 50001, 50047, 50048, 64000, 1 << 40} {
				left := ahead - 3*pushed(kind) - price - 3 // 3 of these for 32 bytes of memory
				for _, asked := range askedOf(left) {
					code := callTo(kind, 0x40, text(asked), value, 0, 0, 0, 32)
					_, r := ran(usual(account(0xaa, 7, code+"0 MSTORE8 32 0 RETURN"), account(0x40, 0, gasCode)), to(ahead))
					given := gas.Part(left)
					if word.Compare(asked, w(given)) < 0 {
						given = asked[0]
					}
					// What was given less GAS; less what it answers with: the
					// answer's first byte is overwritten by the 1 that is put.
					want := word.Bytes(w(given + more - 2))
					used := uint64(2 + 3 + 6 + 6)
					want[0] = 1
					if given+more < used {
						want = [32]byte{}
						used = given + more
					}
					rest := left - given + (given + more - used) - 3 - 3 - 6
					if !r.OK || !bytes.Equal(r.Data, want[:]) || r.Left != rest {
						t.Errorf("%s with %d asked for %s: %x, %d left, want %x, %d", kind, ahead, text(asked), r.Data, r.Left, want, rest)
					}
				}
			}
		}
	}
}

// The 2300 are given beside what is asked for, though nothing is.
func TestP181GivenWithValue(t *testing.T) {
	for _, kind := range kinds[:2] {
		code := callTo(kind, 0x40, "0", 3, 0, 0, 0, 32) + "POP" + first
		_, r := ran(usual(account(0xaa, 7, code), account(0x40, 0, gasCode)), to(plenty))
		if word.From(r.Data) != w(2298) {
			t.Errorf("%s: %x", kind, r.Data)
		}
		code = callTo(kind, 0x40, "5", 3, 0, 0, 0, 32) + "POP" + first
		_, r = ran(usual(account(0xaa, 7, code), account(0x40, 0, gasCode)), to(plenty))
		if word.From(r.Data) != w(2303) {
			t.Errorf("%s: %x", kind, r.Data)
		}
		// With them nothing can be stored.
		code = callTo(kind, 0x40, "0", 3, 0, 0, 0, 0)
		s, r := ran(usual(account(0xaa, 7, code+top), account(0x40, 1, "1 1 SSTORE")), to(plenty))
		if word.From(r.Data) != w(0) {
			t.Errorf("%s: %x", kind, r.Data)
		}
		changed(t, kind, s)
	}
}

// descent is a code that calls itself as often as its input says, and does
// something there; it answers what that puts, and the gas that it takes.
func descent(code string) string {
	head := "0 CALLDATALOAD DUP1 "
	down := " 1 SWAP1 SUB 0 MSTORE 64 0 32 0 0 ADDRESS GAS CALL POP 64 0 RETURN "
	place := len(asm(head)) + 3 + 1 + len(asm(down))
	// With n words 0 on the stack the place is that of the rest.
	jump := fmt.Sprintf("ISZERO PUSH2 #%04x JUMPI", place+1)
	return head + jump + down + "JUMPDEST POP GAS " + code + " GAS SWAP1 SWAP2 SUB 32 MSTORE 0 MSTORE 64 0 RETURN"
}

func TestP181Depth(t *testing.T) {
	creations := map[string]uint64{
		"0 0 0 CREATE":    9 + 32000,
		"0 0 0 0 CREATE2": 12 + 32000,
	}
	codes := map[string]uint64{}
	for code, price := range creations {
		codes[code] = price
	}
	for _, kind := range kinds {
		codes[callTo(kind, 0x77, "GAS", 0, 0, 0, 0, 0)] = 3*(pushed(kind)-1) + 2 + 2600
		codes[callTo(kind, 0x04, "GAS", 0, 0, 0, 0, 0)] = 3*(pushed(kind)-1) + 2 + 2600
	}
	for _, kind := range kinds[:2] {
		codes[callTo(kind, 0xee, "GAS", 1, 0, 0, 0, 0)] = 18 + 2 + 2600 + 9000 - 2300
	}
	for _, code := range sorted(codes) {
		for _, depth := range []uint64{0, 1, 1022, 1023, 1024} {
			_, creates := creations[code]
			aa := account(0xaa, 7, descent(code))
			m := to(1 << 45)
			input := word.Bytes(w(depth))
			m.Data = input[:]
			s, r := ran(usual(aa), m)
			put, used := word.From(r.Data[:32]), word.From(r.Data[32:])
			began := put != api.Word{}
			want := codes[code] + 2 // the GAS behind it
			if strings.Contains(code, "@04") && began {
				want += 15
			}
			if !r.OK || began != (depth < 1024) || used != w(want) {
				t.Errorf("%s at depth %d: puts %s, costs %s, want %d", code, depth, text(put), text(used), want)
			}
			if creates && s.Nonce(at(0xaa)) == 0 != (depth == 1024) {
				t.Errorf("%s at depth %d: the nonce is %d", code, depth, s.Nonce(at(0xaa)))
			}
			if depth == 1024 {
				changed(t, code, s)
			}
		}
	}
	// One that calls itself with all its gas has 1025 frames.
	_, r := run("32 0 0 0 0 ADDRESS GAS CALL POP 0 MLOAD 1 ADD"+top, 1<<45)
	if word.From(r.Data) != w(1025) {
		t.Errorf("frames: %x", r.Data)
	}
}

// A call that isn't begun, as there is less than its value: the gas comes back,
// nothing is answered.
func TestP181LessThanTheValue(t *testing.T) {
	for _, kind := range kinds[:2] {
		for _, to40 := range []byte{0x40, 0x77, 0x04} {
			for value, begins := range map[int]bool{7: true, 8: false, 1 << 40: false} {
				if begins && to40 != 0x40 {
					continue
				}
				code := plain("STATICCALL", 0xbb) + "POP " + callTo(kind, to40, "50000", value, 0, 0, 0, 32) +
					"32 MSTORE RETURNDATASIZE 64 MSTORE 96 0 RETURN"
				l := usual(account(0xaa, 7, code), account(0x40, 1, "1 1 SSTORE 5"+top))
				s, r := ran(l, to(plenty))
				want := digits(0) + digits(0) + digits(0)
				price := uint64(6*3+2600+18+2) + 7*3 + 2600 + 9000 - 2300 + 3 + 3 + 3 + 3 + 2 + 3 + 3 + 3 + 6
				if to40 == 0x77 && kind == "CALL" || to40 == 0x04 && kind == "CALL" {
					price += 25000
				}
				if begins {
					want = digits(5) + digits(1) + digits(32)
					price += 6 + 22100 + 18
				}
				if got := hex.EncodeToString(r.Data); !r.OK || got != want || plenty-r.Left != price {
					t.Errorf("%s: %s, %d, want %s, %d", code, got, plenty-r.Left, want, price)
				}
				if !begins {
					changed(t, code, s)
				}
				warmed(t, code, s, to40, 0xbb)
			}
		}
	}
	code := "0 0 0 0 " + text(minus(1)) + " @ee 0 CALL"
	puts(t, code, w(0))
	puts(t, strings.Replace(code, "CALL", "CALLCODE", 1), w(0))
}

func TestP181AnswersPlace(t *testing.T) {
	for _, kind := range kinds {
		for size := range 70 {
			for _, room := range []int{0, 1, 31, 32, 33, 64, 65} {
				answers := fmt.Sprintf("%d %d %d CALLDATACOPY ", 0, 0, 0) + text(allBits()) + " 0 MSTORE " + text(minus(2)) + " 32 MSTORE " +
					fmt.Sprintf("%d 0 RETURN", size)
				code := "5 0 MSTORE 6 32 MSTORE 7 64 MSTORE " + callTo(kind, 0x40, "100000", 0, 0, 0, 1, room) + "RETURNDATASIZE 96 MSTORE" + fourth
				_, r := ran(usual(account(0xaa, 7, code), account(0x40, 0, answers)), to(plenty))
				answer := append(bytes.Repeat([]byte{255}, 63), 254, 0, 0, 0, 0, 0, 0, 0)[:size]
				want := make([]byte, 128)
				want[31], want[63], want[95], want[127] = 5, 6, 7, byte(size)
				copy(want[1:], answer[:min(size, room)])
				if !r.OK || !bytes.Equal(r.Data, want) {
					t.Fatalf("%s: %d bytes, place for %d:\n%x\nwant\n%x", kind, size, room, r.Data, want)
				}
			}
		}
	}
}

// What was answered is all there, whatever place there was, until something
// else is begun.
func TestP181Answered(t *testing.T) {
	all := func(code string) string {
		return code + "POP RETURNDATASIZE 0 0 RETURNDATACOPY RETURNDATASIZE 0 RETURN"
	}
	l := []api.Account{
		account(0x40, 0, "258 0 MSTORE 5 29 RETURN"),
		account(0x41, 0, "259 0 MSTORE 5 29 REVERT"),
		account(0x42, 0, "259 0 MSTORE #fe"),
		account(0x43, 0, "STOP"),
	}
	for _, kind := range kinds {
		for _, x := range []struct{ code, want string }{
			{plain(kind, 0x40), "0001020000"}, // the last bytes are beyond the word
			{plain(kind, 0x41), "0001030000"},
			{plain(kind, 0x42), ""},
			{plain(kind, 0x43), ""},
			{plain(kind, 0x77), ""},
			{plain(kind, 0x40) + "POP " + plain(kind, 0x41), "0001030000"},
			{plain(kind, 0x41) + "POP " + plain(kind, 0x40), "0001020000"},
			{plain(kind, 0x40) + "POP " + plain(kind, 0x42), ""},
			{plain(kind, 0x40) + "POP " + plain(kind, 0x43), ""},
			{plain(kind, 0x40) + "POP " + plain(kind, 0x77), ""},
			{plain(kind, 0x40) + "POP 5 0 MSTORE 1 1 ADD ", "0001020000"},
			{plain(kind, 0x40) + "POP " + callTo(kind, 0x40, "3", 0, 0, 0, 0, 0), ""},
		} {
			_, r := ran(usual(append(l, account(0xaa, 7, all(x.code)))...), to(plenty))
			if got := hex.EncodeToString(r.Data); !r.OK || got != x.want {
				t.Errorf("%s: %s, want %s", x.code, got, x.want)
			}
		}
	}
	// A frame has nothing that was answered to another one.
	l[3] = account(0x43, 0, "RETURNDATASIZE"+top)
	for _, kind := range kinds {
		code := plain(kind, 0x40) + "POP " + callTo(kind, 0x43, "100000", 0, 0, 0, 0, 32) + "POP" + first
		_, r := ran(usual(append(l, account(0xaa, 7, code))...), to(plenty))
		if word.From(r.Data) != w(0) {
			t.Errorf("%s: %x", code, r.Data)
		}
	}
}

// What comes of a frame that is reverted, and of one that fails.
func TestP181NotWell(t *testing.T) {
	body := "1 1 SSTORE 0 0 LOG0 @99 BALANCE POP 258 0 MSTORE "
	spent := uint64(6 + 22100 + 6 + 375 + 3 + 2600 + 2 + 9 + 3)
	for _, kind := range kinds[:3] {
		for _, x := range []struct {
			end  string
			want string // what is put, written at place 1, and answered
			gas  uint64
		}{
			{"2 30 REVERT", digits(0) + "0102" + strings.Repeat("00", 30) + digits(2), spent + 6},
			{"#fe", digits(0) + strings.Repeat("ff", 32) + digits(0), 60000},
			{"ADD", digits(0) + strings.Repeat("ff", 32) + digits(0), 60000},
			{"2 30 RETURN", digits(1) + "0102" + strings.Repeat("00", 30) + digits(2), spent + 6},
		} {
			code := callTo(kind, 0x40, "60000", 0, 0, 0, 32, 2) + "0 MSTORE RETURNDATASIZE 64 MSTORE 96 0 RETURN"
			if x.gas == 60000 {
				code = text(allBits()) + " 32 MSTORE " + code
			} else {
				code = "0 32 MSTORE " + code
			}
			s, r := ran(usual(account(0xaa, 7, code), account(0x40, 0, body+x.end)), to(plenty))
			gas := 9 + 6 + 3*pushed(kind) + 2600 + x.gas + 6 + 2 + 6 + 3 + 6
			if got := hex.EncodeToString(r.Data); !r.OK || got != x.want || plenty-r.Left != gas {
				t.Errorf("%s, %s:\n%s, %d\nwant\n%s, %d", kind, x.end, got, plenty-r.Left, x.want, gas)
			}
			if x.end == "2 30 RETURN" {
				warmed(t, kind, s, 0x40, 0x99)
				continue
			}
			changed(t, kind+x.end, s)
			logged(t, kind+x.end, s)
			warmed(t, kind+x.end, s, 0x40)
			if !s.TouchSlot(at(0x40), w(1)) || !s.TouchSlot(at(0xaa), w(1)) {
				t.Errorf("%s, %s: the slot is warm", kind, x.end)
			}
		}
	}
}

// three is an input of the fifth built-in contract: three numbers with their
// lengths ahead.
func three(base, exponent, modulus []byte) []byte {
	var b []byte
	for _, l := range [][]byte{base, exponent, modulus} {
		n := word.Bytes(w(uint64(len(l))))
		b = append(b, n[:]...)
	}
	return slices.Concat(b, base, exponent, modulus)
}

func TestP181BuiltIn(t *testing.T) {
	input := three([]byte{3}, []byte{5}, []byte{0, 7})
	long := three(counted(65), []byte{5}, []byte{7})
	hash := sha.Sum(input)
	for _, kind := range kinds {
		for _, x := range []struct {
			n      byte
			input  []byte
			answer []byte
			price  uint64
			fails  bool
		}{
			{2, input, hash[:], 60 + 12*4, false},
			{4, input, input, 15 + 3*4, false},
			{5, input, []byte{0, 5}, modexp.Gas(input), false},
			{5, long, nil, modexp.Gas(long), true},
			{1, input, nil, 0, false},
			{3, input, nil, 0, false},
			{6, input, nil, 0, false},
			{7, input, nil, 0, false},
			{8, input, nil, 0, false},
			{9, input, nil, 0, false},
			{10, input, nil, 0, false},
			{0, input, nil, 0, false},
		} {
			size := uint64(len(x.input))
			for _, given := range []uint64{0, x.price, x.price + 1, 5000, max(x.price, 1) - 1} {
				ok := given >= x.price && !x.fails
				code := "CALLDATASIZE 0 0 CALLDATACOPY " + callTo(kind, x.n, text(w(given)), 0, 0, len(x.input), 300, 128) +
					"428 MSTORE8 RETURNDATASIZE 429 MSTORE8 130 300 RETURN"
				m := to(plenty)
				m.Data = x.input
				_, r := ran(usual(account(0xaa, 7, code)), m)
				want := make([]byte, 130)
				gas := 2 + 3 + 3 + 3 + 3*((size+31)/32) + 3*pushed(kind) + 2600 + memoryPrice(430) + 6 + 2 + 6 + 6
				if ok {
					copy(want[:128], x.answer)
					want[128], want[129] = 1, byte(len(x.answer))
					gas += x.price
				} else {
					gas += given
				}
				if !r.OK || !bytes.Equal(r.Data, want) || plenty-r.Left != gas {
					t.Errorf("%s of %d with %d: %x, %d, want %x, %d", kind, x.n, given, r.Data, plenty-r.Left, want, gas)
				}
			}
		}
	}
}

// A built-in contract is given a value like any account, but if it fails.
func TestP181BuiltInIsGiven(t *testing.T) {
	for _, x := range []struct {
		gas  string
		kind string
		put  uint64
		has  uint64
	}{{"100", "CALL", 1, 3}, {"100", "CALLCODE", 1, 0}, {"0", "CALL", 1, 3}} {
		code := callTo(x.kind, 4, x.gas, 3, 0, 0, 0, 0) + top
		s, r := ran(usual(account(0xaa, 7, code)), to(plenty))
		if word.From(r.Data) != w(x.put) || s.Balance(at(4)) != w(x.has) || s.Balance(at(0xaa)) != w(7-x.has) {
			t.Errorf("%s: %x, %v", code, r.Data, s.Changes())
		}
	}
	// 5 refuses a base of 65 bytes.
	code := text(w(65)) + " 0 MSTORE " + callTo("CALL", 5, "100000", 3, 0, 96, 0, 0) + top
	s, r := ran(usual(account(0xaa, 7, code)), to(plenty))
	if word.From(r.Data) != w(0) {
		t.Errorf("%x", r.Data)
	}
	changed(t, code, s)
	// What lies at its address isn't run.
	for n := range 12 {
		l := usual(account(0xaa, 7, plain("CALL", byte(n))+"POP RETURNDATASIZE"+top), account(byte(n), 0, "2 0 RETURN"))
		_, r := ran(l, to(plenty))
		want := uint64(2)
		if n == 4 || n == 5 {
			want = 0
		}
		if n == 2 {
			want = 32
		}
		if word.From(r.Data) != w(want) {
			t.Errorf("%d with a code: %x", n, r.Data)
		}
	}
}

func TestP181CallsItself(t *testing.T) {
	for _, kind := range kinds {
		// With an input it answers 9; without one it calls itself with one.
		code := "CALLDATASIZE ISZERO 15 JUMPI 9 0 MSTORE 32 0 RETURN JUMPDEST " +
			callTo(kind, 0xaa, "100000", 2, 0, 1, 0, 32) + "32 MSTORE" + second
		s, r := ran(usual(account(0xaa, 7, code)), to(plenty))
		if got := hex.EncodeToString(r.Data); !r.OK || got != digits(9)+digits(1) {
			t.Errorf("%s: %s", code, got)
		}
		changed(t, code, s)
		warmed(t, code, s, 0xaa)
	}
}

// Each frame has a memory of its own, though it is of the same account.
func TestP181FramesAreApart(t *testing.T) {
	for _, kind := range kinds {
		counts := "0 MLOAD MSIZE 32 EQ ADD"
		code := callTo(kind, 0x40, "100000", 0, 0, 0, 0, 32) + "POP " + callTo(kind, 0x40, "100000", 0, 0, 0, 32, 32) + "POP" + second
		_, r := ran(usual(account(0xaa, 7, "5 0 MSTORE 6 32 MSTORE "+code), account(0x40, 0, counts+top)), to(plenty))
		if got := hex.EncodeToString(r.Data); got != digits(1)+digits(1) {
			t.Errorf("%s: %s", kind, got)
		}
	}
}

// A warm account ahead of the message.
func TestP181CallOfAWarmAccount(t *testing.T) {
	for _, kind := range kinds {
		s := state.New(state.List(usual(account(0xaa, 7, plain(kind, 0xee)))))
		s.Touch(at(0xee))
		if r := evm.Run(s, block(), to(1000)); !r.OK || r.Left != 1000-3*pushed(kind)-100 {
			t.Errorf("%s: %+v", kind, r)
		}
	}
}
