package evm

import (
	"smithy/addr"
	"smithy/api"
	"smithy/gas"
	"smithy/keccak"
	"smithy/word"
)

// keptForStore is the gas that a store must find more than: what a call with a
// value is given beside what is paid for must not do to store.
const keptForStore = 2300

// look puts what an account has.
func (f *frame) look(op byte) ending {
	a := addr.Of(f.pop())
	if !f.pay(gas.Account(f.state.Touch(a))) {
		return fails
	}
	switch {
	case op == opBalance:
		return f.put(f.state.Balance(a))
	case op == opExtCodeSize:
		return f.put(length(f.state.Code(a)))
	case f.state.Empty(a):
		return f.put(api.Word{})
	}
	return f.put(keccak.Word(f.state.Code(a)))
}

// loadSlot puts what the account has stored.
func (f *frame) loadSlot() ending {
	key := f.pop()
	if !f.pay(gas.Sload(f.state.TouchSlot(f.account, key))) {
		return fails
	}
	return f.put(f.state.Load(f.account, key))
}

// storeSlot stores a word.
func (f *frame) storeSlot() ending {
	key, next := f.pop(), f.pop()
	if f.static || f.gas <= keptForStore {
		return fails
	}
	cold := f.state.TouchSlot(f.account, key)
	first, now := f.state.First(f.account, key), f.state.Load(f.account, key)
	price, refund := gas.Sstore(first, now, next, cold)
	if !f.pay(price) {
		return fails
	}
	f.state.Add(refund)
	f.state.Set(f.account, key, next)
	return goesOn
}

// log logs some bytes of the memory, and so many topics.
func (f *frame) log(topics int) ending {
	at, n := f.pop(), f.pop()
	if f.static || !f.reach(at, n) || !f.pay(gas.Log(topics, uint64(small(n)))) {
		return fails
	}
	l := api.Log{Address: f.account, Data: f.read(at, n)}
	for range topics {
		l.Topics = append(l.Topics, f.pop())
	}
	f.state.Log(l)
	return goesOn
}

// destroy gives all that the account has to another one, and destroys it.
func (f *frame) destroy() ending {
	to := addr.Of(f.pop())
	if f.static {
		return fails
	}
	all, cold := f.state.Balance(f.account), f.state.Touch(to)
	fresh := all != (api.Word{}) && f.state.Empty(to)
	if !f.pay(gas.Destroy(cold, fresh)) {
		return fails
	}
	f.state.SetBalance(to, word.Add(f.state.Balance(to), all))
	// Last, as the account may be given what it has itself.
	f.state.SetBalance(f.account, api.Word{})
	f.state.Destroy(f.account)
	return endsWell
}
