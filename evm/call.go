package evm

import (
	"smithy/addr"
	"smithy/api"
	"smithy/gas"
	"smithy/word"
)

// withValue is the gas that a call with a value is given beside what is paid
// for.
const withValue = 2300

// call begins a frame for an account's code.
func (f *frame) call(op byte) ending {
	asked, of := f.pop(), addr.Of(f.pop())
	var value api.Word
	if op == opCall || op == opCallCode {
		value = f.pop()
	}
	at, n, to, room := f.pop(), f.pop(), f.pop(), f.pop()
	valued := value != api.Word{}
	if op == opCall && valued && f.static || !f.reach(at, n) || !f.reach(to, room) {
		return fails
	}
	cold := f.state.Touch(of)
	fresh := op == opCall && f.state.Empty(of)
	if !f.pay(gas.Call(cold, valued, fresh)) {
		return fails
	}
	next := f.called(op, of, value)
	next.gas = f.part(asked)
	f.gas -= next.gas
	if valued {
		next.gas += withValue
	}
	if !f.begins(value) {
		return f.notBegun(next.gas)
	}
	next.input = f.read(at, n)
	var given api.Word
	if op == opCall {
		given = value
	}
	o := f.over(f.runCall(next, of, given))
	f.memory.Write(small(to), o.answer[:min(len(o.answer), small(room))])
	return f.put(flag(o.end == endsWell))
}

// called is the frame that a call begins.
func (f *frame) called(op byte, of api.Address, value api.Word) *frame {
	next := &frame{
		setting: f.setting,
		account: of,
		caller:  f.account,
		value:   value,
		static:  f.static || op == opStaticCall,
		depth:   f.depth + 1,
	}
	switch op {
	case opCallCode:
		next.account = f.account
	case opDelegateCall:
		next.account, next.caller, next.value = f.account, f.caller, f.value
	}
	return next
}

// part is the gas that is asked for, or as much of it as may be given.
func (f *frame) part(asked api.Word) uint64 {
	most := gas.Part(f.gas)
	if n, ok := word.Small(asked); ok && n < most {
		return n
	}
	return most
}

// begins tells whether a frame with a value may begin another one.
func (f *frame) begins(value api.Word) bool {
	return f.depth < api.MaxFrames && f.affords(f.account, value)
}

// notBegun is how a step ends whose frame isn't begun: the gas comes back.
func (f *frame) notBegun(given uint64) ending {
	f.gas += given
	f.answered = nil
	return f.put(api.Word{})
}

// over takes what came of a frame that it began.
func (f *frame) over(o outcome) outcome {
	f.gas += o.left
	f.answered = o.answer
	return o
}
