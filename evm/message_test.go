package evm_test

import (
	"bytes"
	"encoding/hex"
	"math"
	"slices"
	"testing"

	"smithy/addr"
	"smithy/api"
	"smithy/evm"
	"smithy/state"
	"smithy/word"
)

func TestP181Messages(t *testing.T) {
	m := to(plenty)
	m.Value, m.Data = w(13), counted(40)
	s, r := ran(usual(account(0xaa, 7, "CALLDATASIZE 0 0 CALLDATACOPY CALLER 64 MSTORE CALLVALUE 96 MSTORE"+fourth)), m)
	want := append(counted(40), make([]byte, 88)...)
	want[95], want[127] = 0xdd, 13
	if !r.OK || r.Reverted || !bytes.Equal(r.Data, want) {
		t.Errorf("%+v", r)
	}
	aa, dd := account(0xaa, 20, ""), account(0xdd, 87, "")
	aa.Code = s.Code(at(0xaa))
	changed(t, "a message", s, aa, dd)
	warmed(t, "a message", s)
	if s.Nonce(at(0xdd)) != 0 {
		t.Errorf("the caller's nonce is %d", s.Nonce(at(0xdd)))
	}
}

func TestP181MessageValues(t *testing.T) {
	for _, x := range []struct {
		value api.Word
		to    byte
		ok    bool
	}{
		{w(0), 0xaa, true}, {w(1), 0xaa, true}, {w(100), 0xaa, true}, {w(101), 0xaa, false}, {minus(1), 0xaa, false},
		{word.Shl(w(1), 64), 0xaa, false}, {word.Shl(w(1), 255), 0x77, false}, {w(100), 0x77, true}, {w(0), 0x77, true},
		{w(100), 0xdd, true}, {w(101), 0xdd, false}, {w(0), 4, true}, {w(9), 4, true}, {w(9), 1, true},
	} {
		m := to(500)
		m.Value, m.To = x.value, at(x.to)
		s, r := ran(usual(account(0xaa, 7, "")), m)
		left := uint64(500)
		if x.ok && x.to == 4 {
			left -= 15
		}
		if !same(r, api.Result{OK: x.ok, Left: left}) {
			t.Errorf("%s to %x: %+v", text(x.value), x.to, r)
		}
		if !x.ok {
			unchanged(t, text(x.value), s)
			continue
		}
		has := w(100)
		if x.to != 0xdd {
			has = word.Sub(has, x.value)
		}
		if s.Balance(at(0xdd)) != has {
			t.Errorf("%s to %x: %v", text(x.value), x.to, s.Changes())
		}
		warmed(t, text(x.value), s)
	}
}

// A caller that has nothing may call without a value.
func TestP181MessageOfAnybody(t *testing.T) {
	for _, caller := range []byte{0, 4, 0x77, 0xaa} {
		m := to(plenty)
		m.Caller = at(caller)
		_, r := ran(usual(account(0xaa, 0, "CALLER"+top)), m)
		if !r.OK || word.From(r.Data) != w(uint64(caller)) {
			t.Errorf("%x: %+v", caller, r)
		}
		m.Value = w(1)
		s, r := ran(usual(account(0xaa, 0, "CALLER"+top)), m)
		if !same(r, api.Result{Left: plenty}) {
			t.Errorf("%x: %+v", caller, r)
		}
		unchanged(t, "a value that isn't there", s)
	}
}

func TestP181MessageToABuiltIn(t *testing.T) {
	for _, x := range []struct {
		n    byte
		gas  uint64
		want api.Result
	}{
		{4, 18, api.Result{OK: true, Data: []byte("ab")}},
		{4, 17, api.Result{}},
		{4, plenty, api.Result{OK: true, Left: plenty - 18, Data: []byte("ab")}},
		{2, 71, api.Result{}},
		{1, 17, api.Result{OK: true, Left: 17}},
		{5, 200, api.Result{OK: true, Data: nil}},
		{5, 199, api.Result{}},
	} {
		m := to(x.gas)
		m.To, m.Data, m.Value = at(x.n), []byte("ab"), w(5)
		if x.n == 5 {
			m.Data = nil
		}
		s, r := ran(usual(), m)
		if !same(r, x.want) {
			t.Errorf("%d with %d: %+v", x.n, x.gas, r)
		}
		if !r.OK {
			unchanged(t, "a built-in contract", s)
		} else if s.Balance(at(x.n)) != w(5) {
			t.Errorf("%d with %d: it is given nothing", x.n, x.gas)
		}
	}
	m := to(72)
	m.To, m.Data = at(2), []byte("abc")
	_, r := ran(usual(), m)
	if got := hex.EncodeToString(r.Data); !r.OK || r.Left != 0 || got != "ba7816bf8f01cfea414140de5dae2223b00361a396177a9cb410ff61f20015ad" {
		t.Errorf("%s, %+v", got, r)
	}
}

// Behind a message that goes wrong its value isn't given.
func TestP182ValueComesBack(t *testing.T) {
	for _, code := range []string{"#fe", "0 0 REVERT", "ADD", "1 1 SSTORE 5 0 MSTORE 32 0 REVERT", "0 0 LOG0 @ee BALANCE POP POP"} {
		m := to(100000)
		m.Value = w(13)
		s, r := ran(usual(account(0xaa, 7, code)), m)
		if r.OK || r.Reverted != (r.Left > 0) {
			t.Errorf("%s: %+v", code, r)
		}
		unchanged(t, code, s)
	}
}

func TestNilState(t *testing.T) {
	for _, m := range []api.Message{{}, to(100), {Create: true, Gas: 9}, {Value: w(1), Gas: 9}} {
		if r := evm.Run(nil, block(), m); !same(r, api.Result{}) {
			t.Errorf("%+v", r)
		}
	}
}

// A state on no world, and nothing that is said.
func TestZeroArguments(t *testing.T) {
	s := state.New(nil)
	if r := evm.Run(s, api.Block{}, api.Message{}); !same(r, api.Result{OK: true}) {
		t.Errorf("%+v", r)
	}
	if r := evm.Run(s, api.Block{}, api.Message{Create: true, Gas: 9}); !same(r, api.Result{OK: true, Left: 9}) || s.Nonce(api.Address{}) != 1 {
		t.Errorf("%+v", r)
	}
}

// missing is a world that doesn't know some accounts, and notes those that it
// is asked for.
type missing struct {
	state.World
	unknown []api.Address
	asked   []api.Address
}

func (w *missing) Account(a api.Address) (api.Account, bool) {
	if !slices.Contains(w.asked, a) {
		w.asked = append(w.asked, a)
	}
	if slices.Contains(w.unknown, a) {
		return api.Account{}, false
	}
	return w.World.Account(a)
}

// askingCodes are codes that ask for the account 0x99.
func askingCodes() []string {
	l := []string{
		"@99 BALANCE", "@99 EXTCODESIZE", "@99 EXTCODEHASH", "0 0 0 @99 EXTCODECOPY", "@99 SELFDESTRUCT", "@99 BALANCE #fe",
		"@99 BALANCE 0 0 REVERT", "5 0 MSTORE @99 BALANCE 32 0 RETURN", "1 1 SSTORE @99 BALANCE", "@99 BALANCE 1 1 SSTORE",
		"0 0 0 0 3 @99 0 CALL", "JUMPDEST @99 BALANCE 0 JUMP", "@99 BALANCE POP @98 BALANCE",
		"0 0 LOG0 0 0 0 0 0 @40 100000 CALL @99 BALANCE 0 0 LOG0",
	}
	for _, kind := range kinds {
		l = append(l, callTo(kind, 0x99, "0", 0, 0, 0, 0, 0), callTo(kind, 0x40, "100000", 0, 0, 0, 0, 0))
	}
	return l
}

func TestP181Missing(t *testing.T) {
	for _, code := range askingCodes() {
		l := usual(account(0xaa, 7, code), account(0x40, 0, "5 0 MSTORE @99 BALANCE"))
		for _, gas := range []uint64{plenty, 100000} {
			world := &missing{World: state.List(l), unknown: []api.Address{at(0x99), at(0x98)}}
			s := state.New(world)
			m := to(gas)
			m.Value = w(3)
			r := evm.Run(s, block(), m)
			if a, misses := s.Missing(); !same(r, api.Result{}) || !misses || a != at(0x99) {
				t.Errorf("%s with %d: %+v, %x is missing", code, gas, r, a)
			}
			unchanged(t, code, s)
		}
		// All that isn't asked for may be missing.
		world := &missing{World: state.List(l)}
		_, want := ran(l, to(100000))
		if r := evm.Run(state.New(world), block(), to(100000)); !same(r, want) {
			t.Errorf("%s: %+v, want %+v", code, r, want)
		}
		for n := range 256 {
			if a := at(byte(n)); !slices.Contains(world.asked, a) {
				world.unknown = append(world.unknown, a)
			}
		}
		s := state.New(world)
		if r := evm.Run(s, block(), to(100000)); !same(r, want) {
			t.Errorf("%s with many that are missing: %+v, want %+v", code, r, want)
		}
		if _, misses := s.Missing(); misses {
			t.Errorf("%s asks for more than it must", code)
		}
	}
}

// What a message asks for itself may be missing, too: its caller, its To, what
// creations make.
func TestP181MissingOfTheMessage(t *testing.T) {
	made := addr.Create(at(0xaa), 0)
	for _, a := range []api.Address{at(0xdd), at(0xaa), made} {
		for _, value := range []uint64{0, 3, 1000} {
			for _, gas := range []uint64{100000, plenty} {
				if value == 1000 && a != at(0xdd) {
					continue
				}
				world := &missing{World: state.List(usual(account(0xaa, 7, "0 0 0 CREATE"))), unknown: []api.Address{a}}
				s := state.New(world)
				m := to(gas)
				m.Value = w(value)
				if r := evm.Run(s, block(), m); !same(r, api.Result{}) {
					t.Errorf("%x is missing: %+v", a, r)
				}
				if b, misses := s.Missing(); !misses || a != b {
					t.Errorf("%x is missing: %x, %t", a, b, misses)
				}
				unchanged(t, "missing", s)
			}
		}
	}
	// An unknown To of a creation.
	world := &missing{World: state.List(usual()), unknown: []api.Address{at(0x77)}}
	s := state.New(world)
	m := to(plenty)
	m.Create, m.To = true, at(0x77)
	if r := evm.Run(s, block(), m); !same(r, api.Result{}) {
		t.Errorf("%+v", r)
	}
	unchanged(t, "missing", s)
	// One that was missing ahead of the message counts as well.
	s = state.New(&missing{World: state.List(usual(account(0xaa, 7, "1"))), unknown: []api.Address{at(0x98)}})
	s.Touch(at(0x98))
	mark := s.Mark()
	if r := evm.Run(s, block(), to(plenty)); !same(r, api.Result{}) || s.Mark() != mark {
		t.Errorf("%+v", r)
	}
}

// A frame that can't pay for a look at an account, or whose memory is refused,
// or that is static, doesn't ask for more than it came to.
func TestP181MissingBehindAFailure(t *testing.T) {
	for _, code := range []string{
		"#fe @99 BALANCE", "STOP @99 BALANCE", "BALANCE", "0 @99 CALL", "1 0 0 0 @99 0 REVERT @99 BALANCE",
		"0 0 " + text(minus(1)) + " 1 0 @99 0 CALL", text(minus(1)) + " 1 0 0 0 @99 0 CALL", "0 0 0 JUMP @99 BALANCE",
	} {
		l := usual(account(0xaa, 7, code))
		s := state.New(&missing{World: state.List(l), unknown: []api.Address{at(0x99)}})
		_, want := ran(l, to(100000))
		if r := evm.Run(s, block(), to(100000)); !same(r, want) {
			t.Errorf("%s: %+v, want %+v", code, r, want)
		}
		if _, misses := s.Missing(); misses {
			t.Errorf("%s asks for an account", code)
		}
	}
}

// roomy are bytes with room behind them, and something in it.
func roomy(b []byte) []byte {
	return append(append(make([]byte, 0, len(b)+9), b...), 7, 7, 7, 7, 7, 7, 7, 7, 7)[:len(b)]
}

// wear changes all bytes, those in the room behind them too.
func wear(b []byte) {
	b = b[:cap(b)]
	for i := range b {
		b[i] ^= 255
	}
}

func TestHandedInStaysAndIsNotKept(t *testing.T) {
	for _, code := range []string{
		"CALLDATASIZE 0 0 CALLDATACOPY CALLDATASIZE 0 RETURN",
		"CALLDATASIZE 0 0 CALLDATACOPY 9 0 MSTORE 32 0 LOG0 CALLDATASIZE 0 LOG0 CALLDATASIZE 0 REVERT",
		"CALLDATASIZE 0 0 CALLDATACOPY 100 200 CALLDATASIZE 0 4 50000 STATICCALL RETURNDATASIZE 0 0 RETURNDATACOPY RETURNDATASIZE 0 LOG0 RETURNDATASIZE 0 RETURN",
		"999 BLOCKHASH 0 MSTORE 32 0 RETURN",
	} {
		for _, x := range []api.Message{{To: at(0xaa)}, {To: at(4)}, {To: at(0x77), Create: true}} {
			m := to(plenty)
			m.To, m.Create = x.To, x.Create
			m.Data = roomy(counted(100))
			if x.Create {
				m.Data = roomy(asm("CODESIZE 0 0 CODECOPY CODESIZE 0 RETURN"))
			}
			b := block()
			data, hashes := slices.Clone(m.Data[:cap(m.Data)]), slices.Clone(b.Hashes)
			s := state.New(state.List(usual(account(0xaa, 7, code))))
			r := evm.Run(s, b, m)
			if !bytes.Equal(m.Data[:cap(m.Data)], data) || !slices.Equal(b.Hashes, hashes) {
				t.Errorf("%s: what was handed in is changed", code)
			}
			before, logs, made := slices.Clone(r.Data[:cap(r.Data)]), s.Logs(), s.Code(at(0x77))
			wear(m.Data)
			clear(b.Hashes)
			if !bytes.Equal(r.Data[:cap(r.Data)], before) || !slices.EqualFunc(s.Logs(), logs, sameLog) || !bytes.Equal(s.Code(at(0x77)), made) {
				t.Errorf("%s: what was handed in is kept", code)
			}
			wear(r.Data)
			if !slices.EqualFunc(s.Logs(), logs, sameLog) || !bytes.Equal(s.Code(at(0x77)), made) || !bytes.Equal(s.Code(at(0xaa)), asm(code)) {
				t.Errorf("%s: what is answered is kept", code)
			}
		}
	}
}

// The greatest gas: nothing goes round.
func TestP183GreatGas(t *testing.T) {
	for _, code := range []string{
		"", "GAS" + top, callTo("CALL", 0xee, text(minus(1)), 3, 0, 0, 0, 0), callTo("CALL", 0xee, "0", 8, 0, 0, 0, 0),
		callTo("CALLCODE", 0xee, text(w(math.MaxUint64)), 3, 0, 0, 0, 0), "0 0 0 CREATE", "0 0 8 CREATE", "0 0 REVERT",
	} {
		_, r := run(code, math.MaxUint64)
		_, less := run(code, 1<<40)
		if math.MaxUint64-r.Left != 1<<40-less.Left || r.OK != less.OK {
			t.Errorf("%s: %+v, %+v", code, r, less)
		}
	}
}

// Sums of balances that are too great go round, so that nothing is made.
func TestP184GreatBalances(t *testing.T) {
	l := []api.Account{
		{Address: at(0xaa), Balance: minus(1), Code: asm("0 0 0 0 5 @bb 0 CALL")},
		{Address: at(0xbb), Balance: minus(1)},
		{Address: at(0xdd), Balance: minus(1)},
	}
	m := to(plenty)
	m.Value = minus(1)
	s, r := ran(l, m)
	if !r.OK || s.Balance(at(0xdd)) != w(0) || s.Balance(at(0xaa)) != minus(7) || s.Balance(at(0xbb)) != w(4) {
		t.Errorf("%+v, %v", r, s.Changes())
	}
}
