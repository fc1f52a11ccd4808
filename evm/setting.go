package evm

import (
	"smithy/addr"
	"smithy/api"
	"smithy/gas"
	"smithy/prec"
	"smithy/state"
	"smithy/word"
)

// badStart is the first byte that no code may have.
const badStart = 239

// setting is what all frames of a message have in common.
type setting struct {
	state  *state.State
	block  api.Block
	origin api.Address
	price  api.Word
}

// outcome is what came of a frame: how it ended, the gas that it left, and
// what it answered.
type outcome struct {
	end    ending
	left   uint64
	answer []byte
}

// runCall runs an account's code, or the built-in contract of its address, as a
// frame, which is given some of its caller's balance.
func (in *setting) runCall(f *frame, of api.Address, given api.Word) outcome {
	mark := in.state.Mark()
	in.give(f.caller, f.account, given)
	if n := addr.Precompile(of); prec.Has(n) {
		return in.settled(mark, builtIn(n, f))
	}
	f.code = in.state.Code(of)
	return in.settled(mark, f.run())
}

// runCreation runs a frame's code to make its account a contract.
func (in *setting) runCreation(f *frame) outcome {
	if in.state.Nonce(f.account) != 0 || len(in.state.Code(f.account)) > 0 {
		return outcome{end: fails}
	}
	mark := in.state.Mark()
	in.state.Make(f.account)
	in.state.SetNonce(f.account, 1)
	in.give(f.caller, f.account, f.value)
	o := f.run()
	if o.end == endsWell {
		o = in.deposited(f.account, o)
	}
	return in.settled(mark, o)
}

// deposited makes what a creation's frame answered the account's code, if it
// may be one.
func (in *setting) deposited(a api.Address, o outcome) outcome {
	size := uint64(len(o.answer))
	price := gas.Deposit(size)
	if size > api.MaxCode || size > 0 && o.answer[0] == badStart || price > o.left {
		return outcome{end: fails}
	}
	in.state.SetCode(a, o.answer)
	return outcome{end: endsWell, left: o.left - price}
}

// settled is what came of a frame when it is over: what was done since a mark
// is undone, if it didn't end well, and what fails leaves nothing.
func (in *setting) settled(mark int, o outcome) outcome {
	if o.end != endsWell {
		in.state.Back(mark)
	}
	if o.end == fails {
		return outcome{end: fails}
	}
	return o
}

// builtIn is what comes of a built-in contract as a frame.
func builtIn(n int, f *frame) outcome {
	answer, left, ok := prec.Run(n, f.input, f.gas)
	if !ok {
		return outcome{end: fails}
	}
	return outcome{end: endsWell, left: left, answer: answer}
}

// affords tells whether an account has so much.
func (in *setting) affords(a api.Address, value api.Word) bool {
	return word.Compare(in.state.Balance(a), value) >= 0
}

// give moves some of what an account has to another one.
func (in *setting) give(from, to api.Address, value api.Word) {
	if value == (api.Word{}) {
		return
	}
	in.state.SetBalance(from, word.Sub(in.state.Balance(from), value))
	in.state.SetBalance(to, word.Add(in.state.Balance(to), value))
}
