package evm

import (
	"smithy/api"
	"smithy/mem"
	"smithy/ops"
	"smithy/word"
)

// ending is how a step ends.
type ending int

const (
	goesOn ending = iota
	endsWell
	reverts
	fails
)

// frame runs a code.
type frame struct {
	*setting
	account  api.Address // whose balance, storage and creations are meant
	caller   api.Address
	value    api.Word
	input    []byte
	code     []byte
	gas      uint64
	static   bool
	depth    int
	memory   *mem.Memory
	stack    *mem.Stack
	at       int // the place behind the instruction that is done
	dests    []int
	answered []byte // by the last call or creation that it began
	answer   []byte // by itself
}

// run goes from step to step, up to the frame's end.
func (f *frame) run() outcome {
	f.memory, f.stack = mem.New(), mem.NewStack()
	end := goesOn
	for end == goesOn {
		end = f.step()
	}
	return outcome{end: end, left: f.gas, answer: f.answer}
}

// step does one instruction.
func (f *frame) step() ending {
	if _, missing := f.state.Missing(); missing {
		// Nothing of what comes of this is told, so it needn't be done.
		return fails
	}
	if f.at >= len(f.code) {
		return endsWell
	}
	op := f.code[f.at]
	told, ok := ops.Info(op)
	if !ok || !f.hasWords(told) || !dynamic(op) && !f.pay(told.Gas) {
		return fails
	}
	f.at++
	return f.do(op)
}

// hasWords tells whether the stack has what an instruction takes, and room for
// what it puts.
func (f *frame) hasWords(told api.Op) bool {
	left := f.stack.Len() - told.Pops
	return left >= 0 && left+told.Pushes <= api.MaxStack
}

// dynamic tells whether layer 12 says the whole price of an instruction, so
// that what layer 11 tells of it is but the least that it may be.
func dynamic(op byte) bool {
	switch op {
	case opExp, opKeccak, opSload, opSstore,
		opBalance, opExtCodeSize, opExtCodeCopy, opExtCodeHash,
		opCall, opCallCode, opDelegateCall, opStaticCall,
		opCreate, opCreate2, opSelfDestruct:
		return true
	}
	return opLog0 <= op && op <= opLog4
}

// pay takes a price off the gas, if there is so much.
func (f *frame) pay(price uint64) bool {
	if price > f.gas {
		return false
	}
	f.gas -= price
	return true
}

// reach pays for some bytes of the memory, and reaches them.
func (f *frame) reach(at, n api.Word) bool {
	price, ok := f.memory.Cost(at, n)
	return ok && f.pay(price) && f.memory.Reach(at, n)
}

// read are some bytes of the memory that were reached.
func (f *frame) read(at, n api.Word) []byte {
	return f.memory.Read(small(at), small(n))
}

// pop takes a word that is known to be there.
func (f *frame) pop() api.Word {
	a, _ := f.stack.Pop()
	return a
}

// put is how a step ends that puts a word, for which there is room.
func (f *frame) put(a api.Word) ending {
	f.stack.Push(a)
	return goesOn
}

// small is a word as a place or a length that was reached. The place of no
// bytes may be any word; 0 does as well.
func small(a api.Word) int {
	n, ok := word.Small(a)
	if !ok || n > api.MaxMemory {
		return 0
	}
	return int(n)
}

// flag is how an instruction puts that something is so, or isn't.
func flag(so bool) api.Word {
	if so {
		return word.Of(1)
	}
	return api.Word{}
}
