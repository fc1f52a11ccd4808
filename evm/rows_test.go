package evm_test

import (
	"fmt"
	"maps"
	"math/big"
	"testing"

	"smithy/api"
	"smithy/evm"
	"smithy/state"
	"smithy/word"
)

// drawnMessages is how many messages are drawn for each test.
const drawnMessages = 6000

// drawn is a drawn message, in its world and block.
type drawn struct {
	l []api.Account
	b api.Block
	m api.Message
}

func drawMessage(seed uint64) drawn {
	d := newDraw(seed)
	return drawn{d.accounts(), d.block(), d.message()}
}

// tell says which message it is.
func (d drawn) tell() string {
	return fmt.Sprintf("to %x, static %t, create %t, gas %d", d.m.To, d.m.Static, d.m.Create, d.m.Gas)
}

// slotsOf are those of a model's facts, and others that are of interest.
func slotsOf(f facts) map[slot]bool {
	l := maps.Clone(f.warmSlots)
	for s := range f.slots {
		l[s] = true
	}
	for _, a := range places() {
		for _, key := range []uint64{0, 1, 2, 3, 4, 32, 64} {
			l[slot{a, w(key)}] = true
		}
	}
	return l
}

// agree tells whether a state has what a model's facts are. It makes all warm.
func agree(t *testing.T, what string, s *state.State, f facts) {
	t.Helper()
	all := map[api.Address]bool{}
	for a := range f.nonce {
		all[a] = true
	}
	for a := range f.balance {
		all[a] = true
	}
	for _, a := range places() {
		all[a] = true
	}
	for _, x := range s.Changes() {
		all[x.Address] = true
	}
	for a := range all {
		if s.Nonce(a) != f.nonce[a] || s.Balance(a) != f.balance[a] || string(s.Code(a)) != f.code[a] || s.Destroyed(a) != f.destroyed[a] {
			t.Errorf("%s: %x has %d, %v, %x, %t, want %d, %v, %x, %t", what, a, s.Nonce(a), s.Balance(a), s.Code(a), s.Destroyed(a),
				f.nonce[a], f.balance[a], f.code[a], f.destroyed[a])
		}
	}
	for x := range slotsOf(f) {
		if s.Load(x.a, x.key) != f.slots[x] || s.First(x.a, x.key) != f.atFirst[x] || s.TouchSlot(x.a, x.key) == f.warmSlots[x] {
			t.Errorf("%s: the slot %v has %v, want %v", what, x, s.Load(x.a, x.key), f.slots[x])
		}
	}
	for a := range all {
		if s.Touch(a) == f.warm[a] {
			t.Errorf("%s: %x is warm: %t", what, a, !f.warm[a])
		}
	}
	logged(t, what, s, f.logs...)
	if s.Refund() != f.refund {
		t.Errorf("%s: %d are refunded, want %d", what, s.Refund(), f.refund)
	}
}

func TestP181Drawn(t *testing.T) {
	outcomes := map[string]int{}
	for seed := range uint64(drawnMessages) {
		d := drawMessage(seed)
		s := state.New(state.List(d.l))
		got := evm.Run(s, d.b, d.m)
		m := &model{newFacts(d.l), d.b, d.m}
		want := m.message()
		what := fmt.Sprintf("the message %d, %s", seed, d.tell())
		if !same(got, want) {
			t.Errorf("%s:\n%+v\nwant\n%+v", what, got, want)
		}
		agree(t, what, s, m.facts)
		outcomes[fmt.Sprintf("well: %t, reverted: %t", got.OK, got.Reverted)]++
		if t.Failed() {
			return
		}
	}
	for _, what := range sorted(outcomes) {
		t.Logf("%s: %d", what, outcomes[what])
		if outcomes[what] < drawnMessages/20 {
			t.Errorf("%s: only %d", what, outcomes[what])
		}
	}
}

// sum is all that accounts have together.
func sum(l map[api.Address]api.Word) *big.Int {
	n := new(big.Int)
	for _, b := range l {
		n.Add(n, number(b))
	}
	return n
}

// balances are those of a world's accounts, and of those that changed.
func balances(l []api.Account, s *state.State) map[api.Address]api.Word {
	m := map[api.Address]api.Word{}
	for _, x := range l {
		m[x.Address] = x.Balance
	}
	if s != nil {
		for _, x := range s.Changes() {
			m[x.Address] = s.Balance(x.Address)
		}
	}
	return m
}

func TestP182ToP185Drawn(t *testing.T) {
	for seed := range uint64(drawnMessages) {
		d := drawMessage(seed + 1<<32)
		s := state.New(state.List(d.l))
		earlier(s)
		mark, changes, logs, refund := s.Mark(), s.Changes(), s.Logs(), s.Refund()
		before := sum(balances(d.l, s))
		r := evm.Run(s, d.b, d.m)
		what := fmt.Sprintf("the message %d, %s", seed, d.tell())
		if !r.OK && s.Mark() != mark {
			t.Errorf("%s: P18.2: it didn't go well, but has done something", what)
		}
		if !r.OK || d.m.Static && d.m.Value == (api.Word{}) {
			changed(t, what, s, changes...)
			logged(t, what, s, logs...)
			if s.Refund() != refund || s.Destroyed(at(0xaa)) || s.Destroyed(at(0xbb)) || s.Destroyed(at(0xcc)) {
				t.Errorf("%s: something has changed", what)
			}
		}
		if r.Left > d.m.Gas {
			t.Errorf("%s: P18.3: %d is left", what, r.Left)
		}
		if after := sum(balances(d.l, s)); after.Cmp(before) > 0 {
			t.Errorf("%s: P18.4: %v, and %v ahead", what, after, before)
		}
		if !r.OK && !r.Reverted && len(r.Data) != 0 {
			t.Errorf("%s: %x is answered", what, r.Data)
		}
	}
}

// Balances that are so great that they are taken and given in any part.
func TestP184DrawnBalances(t *testing.T) {
	for seed := range uint64(500) {
		d := drawMessage(seed + 1<<40)
		dr := newDraw(seed)
		for i := range d.l {
			d.l[i].Balance = word.Shr(allBits(), uint(4+dr.IntN(250)))
		}
		d.m.Value = word.Shr(d.l[3].Balance, uint(dr.IntN(3)))
		s := state.New(state.List(d.l))
		before := sum(balances(d.l, s))
		m := &model{newFacts(d.l), d.b, d.m}
		if got, want := evm.Run(s, d.b, d.m), m.message(); !same(got, want) {
			t.Errorf("the message %d: %+v, want %+v", seed, got, want)
		}
		if after := sum(balances(d.l, s)); after.Cmp(before) > 0 {
			t.Errorf("the message %d: %v, and %v ahead", seed, after, before)
		}
	}
}

// A message that is asked for twice answers twice the same, and whatever it
// doesn't ask for may be missing; what it does ask for may not.
func TestP181DrawnMissing(t *testing.T) {
	for seed := range uint64(800) {
		d := drawMessage(seed + 1<<48)
		world := &missing{World: state.List(d.l)}
		want := evm.Run(state.New(world), d.b, d.m)
		if got := evm.Run(state.New(state.List(d.l)), d.b, d.m); !same(got, want) {
			t.Errorf("the message %d: %+v, want %+v", seed, got, want)
		}
		asked := world.asked
		for _, a := range asked {
			s := state.New(&missing{World: state.List(d.l), unknown: []api.Address{a}})
			if got := evm.Run(s, d.b, d.m); !same(got, api.Result{}) {
				t.Errorf("the message %d without %x: %+v", seed, a, got)
			}
			if b, misses := s.Missing(); !misses || a != b {
				t.Errorf("the message %d without %x: %x, %t", seed, a, b, misses)
			}
			unchanged(t, "a message", s)
		}
	}
}
