package evm

import (
	"slices"

	"smithy/alu"
	"smithy/api"
	"smithy/gas"
	"smithy/ops"
	"smithy/word"
)

// mostTaken is how many words an instruction that reckons takes at most.
const mostTaken = 3

// do does an instruction whose words are there.
func (f *frame) do(op byte) ending {
	switch {
	case op == opStop:
		return endsWell
	case alu.Takes(op) > 0:
		return f.reckon(op)
	case op < opPop:
		return f.doOutside(op)
	case op < opPush0:
		return f.doInside(op)
	case op <= opPush32:
		return f.push(int(op - opPush0))
	case op <= opDup16:
		f.stack.Dup(int(op-opDup1) + 1)
		return goesOn
	case op <= opSwap16:
		f.stack.Swap(int(op-opSwap1) + 1)
		return goesOn
	case op <= opLog4:
		return f.log(int(op - opLog0))
	}
	return f.doLast(op)
}

// doOutside does what asks for more than the frame's memory, stack and storage.
func (f *frame) doOutside(op byte) ending {
	switch op {
	case opKeccak:
		return f.hash()
	case opBalance, opExtCodeSize, opExtCodeHash:
		return f.look(op)
	case opCallDataLoad:
		return f.put(word.From(part(f.input, f.pop(), wordBytes)))
	case opCallDataCopy:
		return f.copy(f.input)
	case opCodeCopy:
		return f.copy(f.code)
	case opExtCodeCopy:
		return f.copyCode()
	case opReturnDataCopy:
		return f.copyAnswered()
	case opBlockHash:
		return f.put(blockHash(f.block, f.pop()))
	}
	return f.put(f.told(op))
}

// doInside does what asks for the frame's memory, stack and storage.
func (f *frame) doInside(op byte) ending {
	switch op {
	case opPop:
		f.pop()
		return goesOn
	case opMload:
		return f.load()
	case opMstore:
		return f.store()
	case opMstore8:
		return f.storeByte()
	case opSload:
		return f.loadSlot()
	case opSstore:
		return f.storeSlot()
	case opJump:
		return f.jump(f.pop())
	case opJumpI:
		return f.jumpIf(f.pop(), f.pop())
	case opJumpDest:
		return goesOn
	}
	return f.put(f.told(op))
}

// doLast does what begins another frame, or ends this one, as INVALID does.
func (f *frame) doLast(op byte) ending {
	switch op {
	case opCall, opCallCode, opDelegateCall, opStaticCall:
		return f.call(op)
	case opCreate, opCreate2:
		return f.create(op)
	case opReturn:
		return f.end(endsWell)
	case opRevert:
		return f.end(reverts)
	case opSelfDestruct:
		return f.destroy()
	}
	return fails
}

// reckon does what layer 17 reckons.
func (f *frame) reckon(op byte) ending {
	var taken [mostTaken]api.Word
	for i := range alu.Takes(op) {
		taken[i] = f.pop()
	}
	if op == opExp && !f.pay(gas.Exp(taken[1])) {
		return fails
	}
	put, _ := alu.Do(op, taken[0], taken[1], taken[2])
	return f.put(put)
}

// push puts the word of the n bytes behind.
func (f *frame) push(n int) ending {
	there := f.code[f.at:min(f.at+n, len(f.code))]
	f.at += n
	return f.put(word.Shl(word.From(there), uint(byteBits*(n-len(there)))))
}

// jumpIf jumps, if a word isn't 0.
func (f *frame) jumpIf(to, so api.Word) ending {
	if so == (api.Word{}) {
		return goesOn
	}
	return f.jump(to)
}

// jump goes on at a destination.
func (f *frame) jump(to api.Word) ending {
	if f.dests == nil {
		// All at once, as a long run jumps again and again.
		f.dests = ops.Dests(f.code)
	}
	place, ok := word.Small(to)
	if !ok || place >= uint64(len(f.code)) {
		return fails
	}
	if _, ok := slices.BinarySearch(f.dests, int(place)); !ok {
		return fails
	}
	f.at = int(place)
	return goesOn
}
