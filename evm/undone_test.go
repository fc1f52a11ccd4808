package evm_test

import (
	"fmt"
	"testing"

	"smithy/addr"
	"smithy/api"
	"smithy/evm"
	"smithy/state"
	"smithy/word"
)

// doing does all that a frame can do: it stores, logs, is refunded, looks at
// accounts, gives, creates (with a code that does so, too), calls one that
// stores, and one that is destroyed.
const doing = "0 1 SSTORE 7 2 SSTORE 9 0 0 LOG1 @98 BALANCE POP 0 0 0 0 1 @ee 0 CALL POP " +
	"#6c600160015560005f5fa0600000 5 MSTORE 13 24 2 CREATE POP 0 13 24 0 CREATE2 POP " +
	"0 0 0 0 1 @41 100000 CALL POP 0 0 0 0 0 @42 100000 CALL POP "

// doers are aa with a code, 0x40 that does all and ends so, and those it calls.
func doers(code, end string) []api.Account {
	l := usual(
		account(0xaa, 7, code), account(0x40, 50, doing+end),
		account(0x41, 0, "3 3 SSTORE 0 4 SSTORE 0 0 LOG0 0 0 0 CREATE POP @97 EXTCODESIZE POP"),
		account(0x42, 8, "@96 SELFDESTRUCT"))
	l[1].Storage = []api.Slot{{Key: w(1), Value: w(5)}, {Key: w(3), Value: w(5)}}
	l[2].Storage = []api.Slot{{Key: w(4), Value: w(5)}}
	return l
}

// What a frame did, and the frames that it began, is undone if it is reverted
// or fails, and nothing else is: what was done ahead of it and behind it stays.
func TestP182FrameIsUndone(t *testing.T) {
	for _, kind := range kinds[:3] {
		for _, end := range []string{"0 0 REVERT", "#fe", "POP POP POP", "99 0 REVERT"} {
			call := callTo(kind, 0x40, "2000000", 3, 0, 0, 0, 0)
			if kind == "DELEGATECALL" {
				call = callTo(kind, 0x40, "2000000", 0, 0, 0, 0, 0)
			}
			code := "1 5 SSTORE 0 0 LOG0 @95 BALANCE POP " + call + "32 MSTORE 2 6 SSTORE 1 0 LOG0 @94 BALANCE POP 5 SLOAD POP" + second
			l := doers(code, end)
			l[0].Storage = []api.Slot{{Key: w(6), Value: w(1)}, {Key: w(1), Value: w(1)}}
			s, r := ran(l, to(1<<40))
			if !r.OK || word.From(r.Data) != w(0) {
				t.Errorf("%s, %s: %+v", kind, end, r)
			}
			aa := l[0]
			aa.Storage = []api.Slot{{Key: w(1), Value: w(1)}, {Key: w(5), Value: w(1)}, {Key: w(6), Value: w(2)}}
			changed(t, kind+" "+end, s, aa)
			logged(t, kind+" "+end, s, api.Log{Address: at(0xaa)}, api.Log{Address: at(0xaa), Data: []byte{0}})
			for key := range uint64(9) {
				if s.TouchSlot(at(0xaa), w(key)) == (key == 5 || key == 6) || !s.TouchSlot(at(0x40), w(key)) || !s.TouchSlot(at(0x41), w(key)) {
					t.Errorf("%s, %s: the slot %d is warm or cold", kind, end, key)
				}
			}
			if s.Refund() != 0 || s.Destroyed(at(0x42)) || s.Destroyed(at(0x40)) || !s.Touch(addr.Create(at(0x40), 0)) || !s.Touch(addr.Create(at(0xaa), 0)) {
				t.Errorf("%s, %s: %d", kind, end, s.Refund())
			}
			warmed(t, kind+" "+end, s, 0x40, 0x94, 0x95)
		}
	}
}

// The same frame, if it ends well, has done all of it.
func TestP182FrameIsDone(t *testing.T) {
	l := doers(callTo("CALL", 0x40, "2000000", 3, 0, 0, 0, 0)+top, "")
	s, r := ran(l, to(1<<40))
	if !r.OK || word.From(r.Data) != w(1) {
		t.Fatalf("%+v", r)
	}
	init := asm("#600160015560005f5fa0600000")[:13]
	one, two := addr.Create(at(0x40), 0), addr.Create2(at(0x40), w(0), init)
	aa, x40, x41 := l[0], l[1], l[2]
	aa.Balance = w(4)
	x40.Balance, x40.Nonce = w(50+3-1-2-1), 2
	x40.Storage = []api.Slot{{Key: w(2), Value: w(7)}, {Key: w(3), Value: w(5)}}
	x41.Balance, x41.Nonce = w(1), 1
	x41.Storage = []api.Slot{{Key: w(3), Value: w(3)}}
	slot := []api.Slot{{Key: w(1), Value: w(1)}}
	changed(t, "all", s, aa, x40, x41,
		api.Account{Address: one, Nonce: 1, Balance: w(2), Storage: slot}, api.Account{Address: two, Nonce: 1, Storage: slot},
		api.Account{Address: addr.Create(at(0x41), 0), Nonce: 1},
		account(0xee, 10, ""), api.Account{Address: at(0x42)}, account(0x96, 8, ""))
	logged(t, "all", s,
		api.Log{Address: at(0x40), Topics: []api.Word{w(9)}}, api.Log{Address: one}, api.Log{Address: two}, api.Log{Address: at(0x41)})
	if s.Refund() != 2*4800 || !s.Destroyed(at(0x42)) {
		t.Errorf("%d", s.Refund())
	}
	if s.Touch(one) || s.Touch(two) || s.Touch(addr.Create(at(0x41), 0)) {
		t.Error("what was made is cold")
	}
	warmed(t, "all", s, 0x40, 0x41, 0x42, 0x96, 0x97, 0x98, 0xee)
}

// A frame's own calls that went well are undone with it, and a frame that it
// began and that failed doesn't take it along.
func TestP182FramesInFrames(t *testing.T) {
	call := callTo("CALL", 0x40, "2000000", 0, 0, 0, 0, 0) + "POP "
	for _, x := range []struct {
		end40, endBB string
		want         []api.Slot // of bb
	}{
		{"#fe", "", []api.Slot{{Key: w(1), Value: w(1)}, {Key: w(2), Value: w(2)}}},
		{"0 0 REVERT", "", []api.Slot{{Key: w(1), Value: w(1)}, {Key: w(2), Value: w(2)}}},
		{"", "#fe", nil},
		{"", "0 0 REVERT", nil},
		{"#fe", "#fe", nil},
		{"0 0 REVERT", "0 0 REVERT", nil},
	} {
		l := doers(callTo("CALL", 0xbb, "4000000", 0, 0, 0, 0, 0)+"POP 8 8 SSTORE", x.end40)
		l[4].Code = asm("1 1 SSTORE " + call + "2 2 SSTORE " + x.endBB)
		s, r := ran(l, to(1<<40))
		aa, bb := l[0], l[4]
		aa.Storage = []api.Slot{{Key: w(8), Value: w(8)}}
		bb.Storage = x.want
		what := fmt.Sprintf("%q, %q", x.end40, x.endBB)
		if !r.OK {
			t.Errorf("%s: %+v", what, r)
		}
		if x.want != nil {
			changed(t, what, s, aa, bb)
		} else {
			changed(t, what, s, aa)
		}
		logged(t, what, s)
		if s.Refund() != 0 || s.Destroyed(at(0x42)) {
			t.Errorf("%s: %d", what, s.Refund())
		}
		if x.want != nil {
			warmed(t, what, s, 0x40, 0xbb)
		} else {
			warmed(t, what, s, 0xbb)
		}
	}
}

// A creation that doesn't go well undoes what its code did, and it alone: the
// nonce counts, and the account is warm.
func TestP182CreationIsUndone(t *testing.T) {
	for _, end := range []string{"0 0 REVERT", "#fe", "239 0 MSTORE8 1 0 RETURN", "24577 0 RETURN"} {
		init := asm(doing + end)
		code := "1 5 SSTORE " + creation("", 3) + "POP 2 6 SSTORE"
		l := doers(code, "")
		m := to(1 << 40)
		m.Data = init
		s, r := ran(l, m)
		aa := l[0]
		aa.Nonce = 1
		aa.Storage = []api.Slot{{Key: w(5), Value: w(1)}, {Key: w(6), Value: w(2)}}
		if !r.OK || s.Refund() != 0 || s.Destroyed(at(0x42)) {
			t.Errorf("%s: %+v, %d", end, r, s.Refund())
		}
		changed(t, end, s, aa)
		logged(t, end, s)
		a := addr.Create(at(0xaa), 0)
		if s.Touch(a) || !s.Touch(addr.Create(a, 1)) {
			t.Errorf("%s: what is made is cold, or what that made is warm", end)
		}
		warmed(t, end, s)
	}
}

// earlier has done something in a state already.
func earlier(s *state.State) {
	s.Add(77)
	s.Log(api.Log{Address: at(9)})
	s.Touch(at(0x98))
	s.TouchSlot(at(0x40), w(1))
	s.SetBalance(at(0x40), w(60))
	s.Set(at(0x40), w(8), w(8))
	s.SetNonce(at(0xdd), 9)
	s.SetCode(at(0x93), []byte{1})
	s.Destroy(at(0x41))
}

// Behind a message that didn't go well all is as it was ahead of it, be that
// as the world has it or not.
func TestP182MessageIsUndone(t *testing.T) {
	for _, end := range []string{"0 0 REVERT", "#fe", "POP POP POP"} {
		for _, gas := range []uint64{1 << 40, 300000, 100000, 30000} {
			for _, create := range []bool{false, true} {
				l := doers("", end)
				s, other := state.New(state.List(l)), state.New(state.List(l))
				earlier(s)
				earlier(other)
				m := to(gas)
				m.To, m.Value = at(0x40), w(5)
				if create {
					m.To, m.Create, m.Data = at(0x77), true, asm(doing+end)
				}
				mark := s.Mark()
				if r := evm.Run(s, block(), m); r.OK || s.Mark() != mark {
					t.Errorf("%s with %d: %+v", end, gas, r)
				}
				changed(t, end, s, other.Changes()...)
				logged(t, end, s, other.Logs()...)
				if s.Refund() != other.Refund() || s.Destroyed(at(0x42)) || !s.Destroyed(at(0x41)) {
					t.Errorf("%s with %d: %d", end, gas, s.Refund())
				}
				for key := range uint64(10) {
					for _, a := range []api.Address{at(0x40), at(0x41), at(0x77), at(0xaa)} {
						if s.TouchSlot(a, w(key)) != other.TouchSlot(a, w(key)) {
							t.Errorf("%s with %d: the slot %d of %x", end, gas, key, a)
						}
					}
				}
				warmed(t, end, s, 0x98)
			}
		}
	}
}

// Messages of one state stand on each other.
func TestP181MessagesOfOneState(t *testing.T) {
	l := usual(account(0xaa, 7, "1 SLOAD 1 ADD DUP1 1 SSTORE"+top))
	s := state.New(state.List(l))
	gas := []uint64{3 + 2100 + 6 + 3 + 3 + 20000, 3 + 100 + 6 + 3 + 3 + 100, 3 + 100 + 6 + 3 + 3 + 100}
	for i, price := range gas {
		m := to(plenty)
		m.Value = w(10)
		r := evm.Run(s, block(), m)
		if !r.OK || word.From(r.Data) != w(uint64(i+1)) || plenty-r.Left != price+3+6+6 {
			t.Errorf("%d: %+v, %d", i, r, plenty-r.Left)
		}
	}
	if s.Balance(at(0xaa)) != w(37) || s.Balance(at(0xdd)) != w(70) {
		t.Errorf("%v", s.Changes())
	}
}
