package evm_test

import (
	"fmt"
	"math"
	"testing"

	"smithy/api"
	"smithy/word"
)

// changing are codes that change something, or would.
func changing() []string {
	return []string{
		"1 1 SSTORE", "0 1 SSTORE", "5 1 SSTORE", "0 0 LOG0", "1 0 0 LOG1", "1 2 0 0 LOG2", "1 2 3 0 0 LOG3", "1 2 3 4 0 0 LOG4",
		"@ee SELFDESTRUCT", "ADDRESS SELFDESTRUCT", "0 0 0 CREATE", "0 0 3 CREATE", "0 0 0 0 CREATE2",
		"0 0 " + text(minus(1)) + " CREATE", // it wouldn't be begun, but it fails
		callTo("CALL", 0xee, "0", 3, 0, 0, 0, 0), callTo("CALL", 0x04, "0", 1, 0, 0, 0, 0), callTo("CALL", 0x40, "0", 1, 0, 0, 0, 0),
		"0 0 0 0 " + text(minus(1)) + " @ee 0 CALL",
	}
}

// staying are codes that change nothing, though they look like it.
func staying() []string {
	return []string{
		"1 SLOAD POP", "@ee BALANCE POP", "0 0 0 0 0 @ee 1000 CALL POP", "0 0 0 0 3 @ee 1000 CALLCODE POP",
		"0 0 0 0 " + text(minus(1)) + " @ee 0 CALLCODE POP", "0 0 0 0 @ee 0 DELEGATECALL POP", "0 0 0 0 @ee 0 STATICCALL POP",
		"1 0 MSTORE",
	}
}

// storing is an account with slots, a balance and a code.
func storing(n byte, code string) api.Account {
	a := account(n, 50, code)
	a.Storage = []api.Slot{{Key: w(1), Value: w(5)}}
	return a
}

// deep is a code that gets to 0x40's by these calls, by accounts that each do
// the next one, and the accounts. It answers what the last call puts.
func deep(calls ...string) (string, []api.Account) {
	var l []api.Account
	code := ""
	for i := range calls {
		kind := calls[len(calls)-1-i]
		to := byte(0x40)
		if i > 0 {
			to = byte(0x50 + i)
			l = append(l, storing(to, code))
		}
		code = callTo(kind, to, "1000000", 0, 0, 0, 0, 32)
		if i > 0 {
			code += "POP" + first
		} else {
			code += top
		}
	}
	return code, l
}

// In a static frame, and in one that it began, by whatever call, what changes
// something fails.
func TestP185StaticFrames(t *testing.T) {
	ways := [][]string{{"STATICCALL"}}
	for _, kind := range kinds {
		ways = append(ways, []string{"STATICCALL", kind}, []string{kind, "STATICCALL"}, []string{kind, "STATICCALL", kind})
		ways = append(ways, []string{"STATICCALL", kind, "CALL"}, []string{"STATICCALL", kind, kind, kind})
	}
	for _, way := range ways {
		code, l := deep(way...)
		for _, what := range changing() {
			all := usual(append(l, storing(0xaa, code), storing(0x40, what))...)
			s, r := ran(all, to(plenty))
			if !r.OK || word.From(r.Data) != w(0) {
				t.Errorf("%v: %s: %+v", way, what, r)
			}
			changed(t, what, s)
			logged(t, what, s)
			if s.Refund() != 0 || s.Destroyed(at(0x40)) || s.Destroyed(at(0xaa)) {
				t.Errorf("%v: %s: something has changed", way, what)
			}
		}
		for _, what := range staying() {
			all := usual(append(l, storing(0xaa, code), storing(0x40, what))...)
			s, r := ran(all, to(plenty))
			if !r.OK || word.From(r.Data) != w(1) {
				t.Errorf("%v: %s: %+v", way, what, r)
			}
			changed(t, what, s)
		}
	}
}

// What isn't static does all of it.
func TestP185NotStatic(t *testing.T) {
	for _, kind := range kinds[:3] {
		code, _ := deep(kind)
		for _, what := range changing() {
			_, r := ran(usual(storing(0xaa, code), storing(0x40, what)), to(plenty))
			if !r.OK || word.From(r.Data) != w(1) {
				t.Errorf("%s: %s: %+v", kind, what, r)
			}
		}
		// Behind a static call a frame is what it was.
		code = plain("STATICCALL", 0x40) + "POP 1 9 SSTORE"
		s, r := ran(usual(storing(0xaa, code), storing(0x40, "1 SLOAD")), to(plenty))
		if !r.OK || s.Load(at(0xaa), w(9)) != w(1) {
			t.Errorf("%s: %+v", code, r)
		}
	}
}

// What fails takes the frame's whole gas, be there what there may.
func TestP185StaticFails(t *testing.T) {
	for _, what := range changing() {
		for _, given := range []uint64{3, 2000, 100000} {
			code := fmt.Sprintf("0 0 0 0 @40 %d STATICCALL", given)
			_, r := ran(usual(storing(0xaa, code), storing(0x40, what)), to(plenty))
			if !r.OK || plenty-r.Left != 18+2600+given {
				t.Errorf("%s: %d", what, plenty-r.Left)
			}
		}
	}
}

func TestP185StaticMessages(t *testing.T) {
	for _, what := range changing() {
		m := to(plenty)
		m.Static = true
		s, r := ran(usual(storing(0xaa, what)), m)
		if !same(r, api.Result{}) {
			t.Errorf("%s: %+v", what, r)
		}
		unchanged(t, what, s)
		// With a value nothing else is done either.
		m.Value = w(3)
		s, r = ran(usual(storing(0xaa, what)), m)
		if !same(r, api.Result{}) {
			t.Errorf("%s with a value: %+v", what, r)
		}
		unchanged(t, what, s)
	}
	for _, what := range staying() {
		m := to(plenty)
		m.Static = true
		s, r := ran(usual(storing(0xaa, what)), m)
		if !r.OK {
			t.Errorf("%s: %+v", what, r)
		}
		changed(t, what, s)
		m.Value = w(3)
		s, r = ran(usual(storing(0xaa, what+" CALLVALUE"+top)), m)
		if !r.OK || word.From(r.Data) != w(3) {
			t.Errorf("%s with a value: %+v", what, r)
		}
		// Its value is given.
		aa, dd := storing(0xaa, what+" CALLVALUE"+top), account(0xdd, 97, "")
		aa.Balance = w(53)
		changed(t, what, s, aa, dd)
	}
}

// A static message that creates fails, as a creation does in a static frame.
func TestP185StaticMessageCreates(t *testing.T) {
	for _, value := range []uint64{0, 3} {
		for _, init := range []string{"", "STOP", "1 0 RETURN", "1 1 SSTORE", "0 0 REVERT"} {
			m := to(plenty)
			m.Static, m.Create, m.To, m.Value, m.Data = true, true, at(0x77), w(value), asm(init)
			s, r := ran(usual(), m)
			if !same(r, api.Result{}) {
				t.Errorf("%q: %+v", init, r)
			}
			unchanged(t, init, s)
		}
	}
	m := to(math.MaxUint64)
	m.Static, m.Create, m.To, m.Value = true, true, at(0x77), w(101)
	if _, r := ran(usual(), m); !same(r, api.Result{Left: math.MaxUint64}) {
		t.Errorf("%+v", r)
	}
}
