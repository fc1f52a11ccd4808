package evm_test

import (
	"bytes"
	"encoding/hex"
	"fmt"
	"math"
	"strings"
	"testing"

	"smithy/addr"
	"smithy/api"
	"smithy/gas"
	"smithy/state"
	"smithy/word"
)

// fill copies the message's data to the memory.
const fill = "CALLDATASIZE 0 0 CALLDATACOPY "

// creation is the code that creates by the message's data; a salt, as a text,
// is of CREATE2.
func creation(salt string, value int) string {
	if salt == "" {
		return fmt.Sprintf("%sCALLDATASIZE 0 %d CREATE ", fill, value)
	}
	return fmt.Sprintf("%s%s CALLDATASIZE 0 %d CREATE2 ", fill, salt, value)
}

// creationPrice is what creation costs, but for what the code that is run does.
func creationPrice(salt string, size int) uint64 {
	words := uint64(size+31) / 32
	price := 2 + 3 + 3 + 3 + 3*words + memoryPrice(uint64(size)) + 2 + 3 + 3 + 32000 + 2*words
	if salt != "" {
		price += 3 + 6*words
	}
	return price
}

// salts are those that creations are tried with.
var salts = []string{"", "0", "77"}

// made is the address of what aa creates with a nonce of 0.
func made(salt string, init []byte) api.Address {
	if salt == "" {
		return addr.Create(at(0xaa), 0)
	}
	n := w(0)
	if salt == "77" {
		n = w(77)
	}
	return addr.Create2(at(0xaa), n, init)
}

// creating is what comes of a code of aa's, with a message's data.
func creating(code string, init []byte, gas uint64, more ...api.Account) (*state.State, api.Result) {
	m := to(gas)
	m.Data = init
	return ran(usual(append(more, account(0xaa, 7, code))...), m)
}

func TestP181Creates(t *testing.T) {
	inits := map[string]string{ // and the codes that they make
		"": "", "STOP": "", "0 0 RETURN": "", "42 0 MSTORE 1 31 RETURN": "2a", "3 0 RETURN": "000000", "42 0 MSTORE 33 31 RETURN": "2a" + digits(0),
		"239 0 MSTORE 2 30 RETURN": "00ef", "238 0 MSTORE8 1 0 RETURN": "ee",
		"240 0 MSTORE8 1 0 RETURN": "f0", "254 0 MSTORE8 1 0 RETURN": "fe",
	}
	for _, text := range sorted(inits) {
		for _, salt := range salts {
			for _, value := range []int{0, 3, 7} {
				init := asm(text)
				code := creation(salt, value)
				s, r := creating(code+top, init, plenty)
				a := made(salt, init)
				if !r.OK || word.From(r.Data) != addr.Word(a) {
					t.Errorf("%s%s: %x, want %x", code, text, r.Data, a)
				}
				body, _ := hex.DecodeString(inits[text])
				aa := account(0xaa, 7-uint64(value), code+top)
				aa.Nonce = 1
				changed(t, code+text, s, aa, api.Account{Address: a, Nonce: 1, Balance: w(uint64(value)), Code: body})
				if s.Touch(a) || !s.Touch(at(0xaa)) || len(s.Logs()) != 0 || s.Refund() != 0 || s.Destroyed(a) {
					t.Errorf("%s%s: more or less is done than said", code, text)
				}
			}
		}
	}
}

func TestP181CreationCosts(t *testing.T) {
	for _, salt := range salts {
		for _, size := range []int{0, 1, 31, 32, 33, 64, 1000, api.MaxInit} {
			init := make([]byte, size) // it stops
			_, r := creating(creation(salt, 0), init, plenty)
			price := creationPrice(salt, size)
			if !r.OK || plenty-r.Left != price {
				t.Errorf("%q of %d bytes: %d, want %d", salt, size, plenty-r.Left, price)
			}
			if _, r := creating(creation(salt, 0), init, price); !same(r, api.Result{OK: true}) {
				t.Errorf("%q of %d bytes with just enough: %+v", salt, size, r)
			}
			s, r := creating(creation(salt, 0), init, price-1)
			if !same(r, api.Result{}) {
				t.Errorf("%q of %d bytes with one too little: %+v", salt, size, r)
			}
			unchanged(t, salt, s)
		}
		init := asm("42 0 MSTORE 2 30 RETURN")
		_, r := creating(creation(salt, 0), init, plenty)
		if want := creationPrice(salt, len(init)) + 9 + 3 + 6 + 400; plenty-r.Left != want {
			t.Errorf("%q: %d, want %d", salt, plenty-r.Left, want)
		}
	}
}

// The code that is run is any part of the memory.
func TestP181CreatesFromAnyPlace(t *testing.T) {
	init := asm("42 0 MSTORE 1 31 RETURN")
	for _, salt := range []string{"", "9 "} {
		kind := "CREATE"
		a := addr.Create(at(0xaa), 0)
		if salt != "" {
			kind = "CREATE2"
			a = addr.Create2(at(0xaa), w(9), append(init, 0))
		}
		code := fmt.Sprintf("CALLDATASIZE 0 65 CALLDATACOPY %s %d 65 0 %s", salt, len(init)+1, kind)
		s, r := creating(code+top, init, plenty)
		if word.From(r.Data) != addr.Word(a) || !bytes.Equal(s.Code(a), []byte{42}) {
			t.Errorf("%s: %x, %x", code, r.Data, s.Code(a))
		}
	}
}

func TestP181NonceOfTheCreator(t *testing.T) {
	for _, nonce := range []uint64{0, 1, 5, 127, 128, 255, 256, 1 << 32, 1<<63 - 1, 1 << 63, math.MaxUint64 - 1} {
		for _, salt := range salts {
			code := creation(salt, 0)
			aa := account(0xaa, 7, code+top)
			aa.Nonce = nonce
			s, r := ran([]api.Account{aa}, to(plenty))
			a := addr.Create(at(0xaa), nonce)
			if salt != "" {
				a = made(salt, nil)
			}
			if !r.OK || word.From(r.Data) != addr.Word(a) || s.Nonce(at(0xaa)) != nonce+1 || s.Nonce(a) != 1 {
				t.Errorf("%q with a nonce of %d: %x, %d", salt, nonce, r.Data, s.Nonce(at(0xaa)))
			}
		}
	}
}

// A creation that isn't begun: the gas comes back, nothing is answered,
// touched or counted.
func TestP181CreationNotBegun(t *testing.T) {
	for _, salt := range salts {
		for _, x := range []struct {
			nonce   uint64
			value   int
			balance uint64
		}{{math.MaxUint64, 0, 7}, {math.MaxUint64, 3, 7}, {0, 8, 7}, {5, 1, 0}, {math.MaxUint64, 8, 7}} {
			before := plain("STATICCALL", 0xbb) + "POP "
			code := before + creation(salt, x.value)
			init := asm("1 1 SSTORE")
			aa := account(0xaa, x.balance, code+"0 MSTORE RETURNDATASIZE 32 MSTORE"+second)
			aa.Nonce = x.nonce
			m := to(plenty)
			m.Data = init
			s, r := ran(usual(aa), m)
			if got := hex.EncodeToString(r.Data); !r.OK || got != digits(0)+digits(0) {
				t.Errorf("%s with a nonce of %d: %s", code, x.nonce, got)
			}
			want := 6*3 + 2600 + 18 + 2 + creationPrice(salt, len(init)) + 6 + 2 + 6 + 3 + 6
			if plenty-r.Left != want {
				t.Errorf("%s with a nonce of %d: %d, want %d", code, x.nonce, plenty-r.Left, want)
			}
			changed(t, code, s)
			warmed(t, code, s, 0xbb)
			a := addr.Create(at(0xaa), x.nonce)
			if salt != "" {
				a = made(salt, init)
			}
			if !s.Touch(a) {
				t.Errorf("%s with a nonce of %d: what isn't made is warm", code, x.nonce)
			}
		}
	}
}

func TestP181CreationsFrame(t *testing.T) {
	m := to(plenty)
	m.Value, m.Data = w(13), asm(whoCode)
	for _, salt := range salts {
		for _, has := range []uint64{0, 100} {
			a := made(salt, m.Data)
			l := usual(account(0xaa, 7, creation(salt, 3)), api.Account{Address: a, Balance: w(has)})
			s, r := ran(l, m)
			want := ""
			for _, x := range []api.Word{
				addr.Word(a), w(0xaa), w(3), w(0), w(uint64(len(m.Data))), addr.Word(m.Origin), m.Price, w(has + 3),
			} {
				b := word.Bytes(x)
				want += hex.EncodeToString(b[:])
			}
			if got := hex.EncodeToString(s.Code(a)); !r.OK || got != want {
				t.Errorf("%q: %s, want %s", salt, got, want)
			}
		}
	}
}

// What the code that is run does is done as the new account.
func TestP181CreationDoes(t *testing.T) {
	for _, salt := range salts {
		init := asm("1 SLOAD 2 SSTORE 5 1 SSTORE 0 0 LOG0 0 0 0 0 2 @ee 0 CALL 1 0 RETURN")
		a := made(salt, init)
		before := api.Account{Address: a, Storage: []api.Slot{{Key: w(1), Value: w(9)}, {Key: w(3), Value: w(9)}}}
		code := creation(salt, 3)
		s, r := creating(code, init, plenty, before)
		aa := account(0xaa, 4, code)
		aa.Nonce = 1
		changed(t, code, s, aa, account(0xee, 11, ""), api.Account{
			Address: a, Nonce: 1, Balance: w(1), Code: []byte{0}, Storage: []api.Slot{{Key: w(1), Value: w(5)}},
		})
		logged(t, code, s, api.Log{Address: a})
		// What is stored is new: nothing was there.
		price := creationPrice(salt, len(init)) + (3 + 2100 + 3 + 2200) + (6 + 20000) + (6 + 375) + (21 + 2600 + 9000 - 2300) + 6 + 3 + 200
		if !r.OK || plenty-r.Left != price || s.First(a, w(1)) != w(0) || s.Refund() != 0 {
			t.Errorf("%q: %d, want %d", salt, plenty-r.Left, price)
		}
	}
}

func TestP181CreationGivenGas(t *testing.T) {
	init := asm("GAS" + top)
	for _, salt := range salts {
		for _, ahead := range []uint64{100000, 100001, 100063, 1 << 40} {
			s, r := creating(creation(salt, 0), init, ahead)
			left := ahead - creationPrice(salt, len(init))
			want := word.Bytes(w(gas.Part(left) - 2))
			if got := s.Code(made(salt, init)); !r.OK || !bytes.Equal(got, want[:]) || left-r.Left != 2+3+6+6+32*200 {
				t.Errorf("%q with %d: %x, %d, want %x", salt, ahead, got, left-r.Left, want)
			}
		}
	}
}

// notMade are codes that make nothing: what they take of the gas (0: all that
// they are given), and what is answered.
func TestP181CreationNotWell(t *testing.T) {
	for _, x := range []struct {
		init, answered string
		gas            uint64
	}{
		{"1 1 SSTORE 258 0 MSTORE 2 30 REVERT", "0102", 6 + 22100 + 12 + 6},
		{"0 0 REVERT", "", 6},
		{"#fe", "", 0},
		{"1 1 SSTORE ADD", "", 0},
		{"239 0 MSTORE8 1 0 RETURN", "", 0},
		{"239 0 MSTORE8 30 0 RETURN", "", 0},
		{"24577 0 RETURN", "", 0},
		{"0 0 LOG0 1 1 SSTORE 239 0 MSTORE8 1 0 RETURN", "", 0},
	} {
		for _, salt := range salts {
			init := asm(x.init)
			code := plain("STATICCALL", 0xbb) + "POP " + creation(salt, 3)
			ahead := uint64(10000000)
			s, r := creating(code+"0 MSTORE RETURNDATASIZE 0 32 RETURNDATACOPY RETURNDATASIZE 32 ADD 0 RETURN", init, ahead)
			if got := hex.EncodeToString(r.Data); !r.OK || got != digits(0)+x.answered {
				t.Errorf("%s of %s: %s", code, x.init, got)
			}
			left := ahead - (6*3 + 2600 + 18 + 2) - creationPrice(salt, len(init))
			if x.gas == 0 {
				left -= gas.Part(left)
			} else {
				left -= x.gas
			}
			memory := memoryPrice(uint64(32+len(x.answered)/2)) - memoryPrice(uint64(len(init)))
			if len(init) > 32 {
				memory = 0
			}
			left -= 6 + 2 + 3 + 3 + 3 + 3*uint64((len(x.answered)/2+31)/32) + memory + 2 + 3 + 3 + 3
			if r.Left != left {
				t.Errorf("%s of %s: %d, want %d", code, x.init, r.Left, left)
			}
			aa := account(0xaa, 7, "")
			aa.Nonce, aa.Code = 1, s.Code(at(0xaa))
			changed(t, code, s, aa)
			logged(t, code, s)
			a := made(salt, init)
			if s.Touch(a) || !s.TouchSlot(a, w(1)) {
				t.Errorf("%s of %s: the account is cold, or its slot warm", code, x.init)
			}
			warmed(t, code, s, 0xbb)
		}
	}
}

// An account that is there already: by its nonce, by its code; not by a
// balance, nor by what it has stored.
func TestP181CreationOfWhatIsThere(t *testing.T) {
	init := asm("1 0 RETURN")
	for _, salt := range salts {
		for _, x := range []struct {
			there  api.Account
			begins bool
		}{
			{api.Account{Nonce: 1}, false},
			{api.Account{Nonce: math.MaxUint64}, false},
			{api.Account{Code: []byte{0}}, false},
			{api.Account{Nonce: 1, Balance: w(1), Code: []byte{0}}, false},
			{api.Account{Balance: w(1)}, true},
			{api.Account{Storage: []api.Slot{{Key: w(1), Value: w(1)}}}, true},
		} {
			x.there.Address = made(salt, init)
			code := plain("STATICCALL", 0xbb) + "POP " + creation(salt, 3)
			ahead := uint64(1000000)
			s, r := creating(code+"0 MSTORE RETURNDATASIZE 32 MSTORE"+second, init, ahead, x.there)
			aa := account(0xaa, 7, "")
			aa.Nonce, aa.Code = 1, s.Code(at(0xaa))
			left := ahead - (6*3 + 2600 + 18 + 2) - creationPrice(salt, len(init))
			if x.begins {
				want := digits(0)[:24] + hex.EncodeToString(x.there.Address[:]) + digits(0)
				if got := hex.EncodeToString(r.Data); got != want {
					t.Errorf("%q of %v: %s", salt, x.there, got)
				}
				aa.Balance = w(4)
				x.there.Nonce, x.there.Code, x.there.Storage = 1, []byte{0}, nil
				x.there.Balance = word.Add(x.there.Balance, w(3))
				changed(t, code, s, aa, x.there)
				left -= 6 + 3 + 200
			} else {
				if got := hex.EncodeToString(r.Data); got != digits(0)+digits(0) {
					t.Errorf("%q of %v: %s", salt, x.there, got)
				}
				changed(t, code, s, aa)
				left -= gas.Part(left)
			}
			if left -= 6 + 2 + 6 + 3 + 6; r.Left != left {
				t.Errorf("%q of %v: %d left, want %d", salt, x.there, r.Left, left)
			}
			if s.Touch(x.there.Address) {
				t.Errorf("%q of %v: it is cold", salt, x.there)
			}
		}
	}
}

func TestP181MaxInit(t *testing.T) {
	for _, salt := range salts {
		for _, size := range []int{api.MaxInit - 1, api.MaxInit} {
			init := append(asm("7 0 MSTORE8 1 0 RETURN"), make([]byte, size)...)[:size]
			s, r := creating(creation(salt, 0)+top, init, plenty)
			if a := made(salt, init); !r.OK || word.From(r.Data) != addr.Word(a) || !bytes.Equal(s.Code(a), []byte{7}) {
				t.Errorf("%q of %d bytes: %t, %x", salt, size, r.OK, r.Data)
			}
		}
		for _, size := range []int{api.MaxInit + 1, api.MaxInit + 32, api.MaxData} {
			s, r := creating(creation(salt, 0), make([]byte, size), plenty)
			if !same(r, api.Result{}) {
				t.Errorf("%q of %d bytes: %+v", salt, size, r)
			}
			unchanged(t, salt, s)
		}
	}
}

func TestP181MaxCode(t *testing.T) {
	for _, salt := range salts {
		for size, fits := range map[int]bool{24575: true, 24576: true, 24577: false, 24608: false, 49152: false} {
			init := asm(fmt.Sprintf("%d 0 RETURN", size))
			s, r := creating(creation(salt, 0)+top, init, plenty)
			a := made(salt, init)
			want := api.Word{}
			if fits {
				want = addr.Word(a)
			} else {
				size = 0
			}
			if !r.OK || word.From(r.Data) != want || len(s.Code(a)) != size {
				t.Errorf("%q: %x, %d bytes, want %d", salt, r.Data, len(s.Code(a)), size)
			}
		}
	}
}

// deposits are what a message's creation needs just so much gas for: the code
// that it runs, and its price with the deposit.
func TestP181Deposit(t *testing.T) {
	for _, x := range []struct {
		init string
		size int
		gas  uint64
	}{
		{"", 0, 0},
		{"0 0 RETURN", 0, 6},
		{"1 0 RETURN", 1, 6 + 3 + 200},
		{"32 0 RETURN", 32, 6 + 3 + 6400},
		{"24576 0 RETURN", 24576, 6 + memoryPrice(24576) + 200*24576},
	} {
		for _, more := range []uint64{0, 1, 199, 200, plenty} {
			m := to(x.gas + more)
			m.Create, m.To, m.Data = true, at(0x77), asm(x.init)
			s, r := ran(usual(), m)
			if !same(r, api.Result{OK: true, Left: more}) || len(s.Code(at(0x77))) != x.size || s.Nonce(at(0x77)) != 1 {
				t.Errorf("%q with %d more: %+v", x.init, more, r)
			}
		}
		for _, less := range []uint64{1, 200, 201} {
			if less > x.gas {
				continue
			}
			m := to(x.gas - less)
			m.Create, m.To, m.Data = true, at(0x77), asm(x.init)
			s, r := ran(usual(), m)
			if !same(r, api.Result{}) {
				t.Errorf("%q with %d less: %+v", x.init, less, r)
			}
			unchanged(t, x.init, s)
		}
	}
	// By a code: what is given is all but a 64th.
	init := asm("32 0 RETURN")
	for _, salt := range salts {
		need := uint64(6 + 3 + 6400)
		left := need
		for gas.Part(left) < need {
			left++
		}
		ahead := creationPrice(salt, len(init)) + left
		s, r := creating(creation(salt, 3), init, ahead)
		if !r.OK || r.Left != left-need || s.Nonce(made(salt, init)) != 1 {
			t.Errorf("%q with just enough: %+v", salt, r)
		}
		s, r = creating(creation(salt, 3), init, ahead-1)
		if !r.OK || r.Left != left-1-gas.Part(left-1) || s.Nonce(made(salt, init)) != 0 || s.Balance(at(0xaa)) != w(7) {
			t.Errorf("%q with one too little: %+v", salt, r)
		}
	}
}

// A contract that is being made creates with a nonce of 1.
func TestP181CreationInACreation(t *testing.T) {
	init := asm("0 0 2 CREATE 0 MSTORE 0 0 0 CREATE 32 MSTORE 64 0 RETURN")
	s, r := creating(creation("", 3), init, plenty)
	a := addr.Create(at(0xaa), 0)
	one, two := addr.Create(a, 1), addr.Create(a, 2)
	b, c := word.Bytes(addr.Word(one)), word.Bytes(addr.Word(two))
	aa := account(0xaa, 4, creation("", 3))
	aa.Nonce = 1
	if !r.OK {
		t.Errorf("%+v", r)
	}
	changed(t, "a creation in one", s, aa,
		api.Account{Address: a, Nonce: 3, Balance: w(1), Code: append(b[:], c[:]...)},
		api.Account{Address: one, Nonce: 1, Balance: w(2)}, api.Account{Address: two, Nonce: 1})
}

// A code that creates with itself has 1024 frames beside the message's own.
func TestP181DepthOfCreations(t *testing.T) {
	for _, code := range []string{"CODESIZE 0 0 CODECOPY CODESIZE 0 0 CREATE", "CODESIZE 0 0 CODECOPY 7 CODESIZE 0 0 CREATE2"} {
		s, r := run(code, 1<<55)
		if n := len(s.Changes()); !r.OK || n != 1025 {
			t.Errorf("%s: %t, %d accounts", code, r.OK, n)
		}
	}
	// A call in a creation in a call, at the depths up to 1024.
	init := "0 0 0 0 0 ADDRESS GAS CALL 0 MSTORE 32 0 RETURN"
	for depth, want := range map[uint64]uint64{0: 1, 1022: 1, 1023: 0, 1024: 0} {
		m := to(1 << 55)
		input := word.Bytes(w(depth))
		m.Data = input[:]
		n := len(asm(init))
		code := descent(fmt.Sprintf("PUSH%d #%x 0 MSTORE %d %d 0 CREATE", n, asm(init), n, 32-n))
		s, r := ran(usual(account(0xaa, 7, code)), m)
		a := addr.Create(at(0xaa), 0)
		if !r.OK || s.Nonce(a) == 0 != (depth == 1024) || word.From(s.Code(a)) != w(want) {
			t.Errorf("depth %d: %+v, %x", depth, r, s.Code(a))
		}
	}
}

// By the same salt and code once more: it is there already, though destroyed.
func TestP181CreationTwice(t *testing.T) {
	for _, x := range []struct {
		init      string
		destroyed bool
	}{{"1 0 RETURN", false}, {"@ee SELFDESTRUCT", true}} {
		init := asm(x.init)
		again := "77 CALLDATASIZE 0 1 CREATE2 "
		code := creation("77", 2) + "0 MSTORE CALLDATASIZE 0 0 CALLDATACOPY " + again
		code = strings.Replace(code, "0 MSTORE CALLDATASIZE", "200 MSTORE CALLDATASIZE", 1) + "232 MSTORE 64 200 RETURN"
		s, r := creating(code, init, plenty)
		a := made("77", init)
		want := digits(0)[:24] + hex.EncodeToString(a[:]) + digits(0)
		if got := hex.EncodeToString(r.Data); got != want || s.Destroyed(a) != x.destroyed {
			t.Errorf("%s: %s, want %s", x.init, got, want)
		}
		if s.Nonce(at(0xaa)) != 2 || s.Balance(at(0xaa)) != w(5) || s.Nonce(a) != 1 {
			t.Errorf("%s: %v", x.init, s.Changes())
		}
	}
	// CREATE makes another one each time.
	s, _ := creating(creation("", 0)+creation("", 0)+creation("", 0), asm("1 0 RETURN"), plenty)
	for n := range uint64(3) {
		if len(s.Code(addr.Create(at(0xaa), n))) != 1 {
			t.Errorf("the creation %d is missing", n)
		}
	}
}

// What a code reads of itself while it makes its account: that has no code yet.
func TestP181CreationHasNoCodeYet(t *testing.T) {
	init := asm("ADDRESS EXTCODESIZE 0 MSTORE CODESIZE 32 MSTORE 0 0 0 0 0 ADDRESS 50000 CALL 64 MSTORE 96 0 RETURN")
	s, _ := creating(creation("", 0), init, plenty)
	want := digits(0) + digits(uint64(len(init))) + digits(1)
	if got := hex.EncodeToString(s.Code(addr.Create(at(0xaa), 0))); got != want {
		t.Errorf("%s, want %s", got, want)
	}
	// Behind it the account is called, and is warm.
	code := creation("", 0) + "POP 32 0 0 0 0 " + text(addr.Word(addr.Create(at(0xaa), 0))) + " 100000 CALL POP RETURNDATASIZE" + top
	s, r := creating(code, asm("25439 0 MSTORE 2 30 RETURN"), plenty) // 635f: a PUSH4 whose bytes aren't all there
	if !r.OK || word.From(r.Data) != w(0) || len(s.Code(addr.Create(at(0xaa), 0))) != 2 {
		t.Errorf("%+v", r)
	}
}

// A message's creation is one at To, whatever nonce the caller has.
func TestP181MessageCreates(t *testing.T) {
	for _, nonce := range []uint64{0, 1, math.MaxUint64 - 1, math.MaxUint64} {
		for _, value := range []uint64{0, 5, 100} {
			l := []api.Account{{Address: at(0xdd), Nonce: nonce, Balance: w(100)}}
			m := to(plenty)
			m.Create, m.To, m.Value, m.Data = true, at(0x77), w(value), asm(whoCode)
			s, r := ran(l, m)
			want := ""
			for _, x := range []api.Word{w(0x77), w(0xdd), w(value), w(0), w(uint64(len(m.Data))), addr.Word(m.Origin), m.Price, w(value)} {
				b := word.Bytes(x)
				want += hex.EncodeToString(b[:])
			}
			if got := hex.EncodeToString(s.Code(at(0x77))); !r.OK || len(r.Data) != 0 || got != want {
				t.Errorf("a nonce of %d, %d: %+v, %s, want %s", nonce, value, r, got, want)
			}
			if s.Nonce(at(0xdd)) != nonce || s.Nonce(at(0x77)) != 1 || s.Balance(at(0xdd)) != w(100-value) || s.Balance(at(0x77)) != w(value) {
				t.Errorf("a nonce of %d, %d: %v", nonce, value, s.Changes())
			}
			warmed(t, "a message's creation", s)
		}
	}
}

func TestP181MessageCreatesNothing(t *testing.T) {
	there := []api.Account{{Address: at(0x10), Nonce: 1}, {Address: at(0x11), Code: []byte{0}}, {Address: at(0x12), Balance: w(1)}, {Address: at(0xdd), Balance: w(100)}}
	for _, x := range []struct {
		to   byte
		init []byte
		want api.Result
	}{
		{0x10, nil, api.Result{}},
		{0x11, nil, api.Result{}},
		{0x77, asm("#fe"), api.Result{}},
		{0x77, asm("239 0 MSTORE8 1 0 RETURN"), api.Result{}},
		{0x77, asm("24577 0 RETURN"), api.Result{}},
		{0x77, make([]byte, api.MaxInit+1), api.Result{}},
		{0x77, make([]byte, api.MaxInit), api.Result{OK: true, Left: plenty}},
		{0x12, nil, api.Result{OK: true, Left: plenty}},
		{0x77, asm("258 0 MSTORE 3 30 REVERT"), api.Result{Reverted: true, Left: plenty - 9 - 3 - 6 - 3, Data: []byte{1, 2, 0}}},
		{0x77, asm("1 1 SSTORE 0 0 LOG0 0 0 REVERT"), api.Result{Reverted: true, Left: plenty - 6 - 22100 - 381 - 6}},
	} {
		m := to(plenty)
		m.Create, m.To, m.Value, m.Data = true, at(x.to), w(5), x.init
		s, r := ran(there, m)
		if !same(r, x.want) {
			t.Errorf("%x at %x: %+v, want %+v", x.init[:min(len(x.init), 20)], x.to, r, x.want)
		}
		if !r.OK {
			unchanged(t, "a message's creation", s)
		}
	}
	// With more than the caller has nothing is done.
	m := to(1000)
	m.Create, m.To, m.Value = true, at(0x77), w(101)
	s, r := ran(there, m)
	if !same(r, api.Result{Left: 1000}) {
		t.Errorf("%+v", r)
	}
	unchanged(t, "a value that is too great", s)
}
