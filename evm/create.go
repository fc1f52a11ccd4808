package evm

import (
	"math"

	"smithy/addr"
	"smithy/api"
	"smithy/gas"
	"smithy/word"
)

// create begins a frame for a code that makes a contract.
func (f *frame) create(op byte) ending {
	value, at, n := f.pop(), f.pop(), f.pop()
	var salt api.Word
	if op == opCreate2 {
		salt = f.pop()
	}
	if f.static || word.Compare(n, word.Of(api.MaxInit)) > 0 || !f.reach(at, n) {
		return fails
	}
	if !f.pay(gas.Create(uint64(small(n)), op == opCreate2)) {
		return fails
	}
	given := gas.Part(f.gas)
	f.gas -= given
	nonce := f.state.Nonce(f.account)
	if !f.begins(value) || nonce == math.MaxUint64 {
		return f.notBegun(given)
	}
	next := &frame{
		setting: f.setting,
		caller:  f.account,
		value:   value,
		code:    f.read(at, n),
		gas:     given,
		depth:   f.depth + 1,
	}
	next.account = addr.Create(f.account, nonce)
	if op == opCreate2 {
		next.account = addr.Create2(f.account, salt, next.code)
	}
	f.state.SetNonce(f.account, nonce+1)
	f.state.Touch(next.account)
	if f.over(f.runCreation(next)).end != endsWell {
		return f.put(api.Word{})
	}
	return f.put(addr.Word(next.account))
}
