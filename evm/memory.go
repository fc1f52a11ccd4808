package evm

import (
	"smithy/addr"
	"smithy/api"
	"smithy/gas"
	"smithy/keccak"
	"smithy/word"
)

const (
	wordBytes = 32
	byteBits  = 8
)

// hash puts the hash of some bytes of the memory.
func (f *frame) hash() ending {
	at, n := f.pop(), f.pop()
	if !f.reach(at, n) || !f.pay(gas.Keccak(uint64(small(n)))) {
		return fails
	}
	return f.put(keccak.Word(f.read(at, n)))
}

// load puts a word of the memory.
func (f *frame) load() ending {
	at := f.pop()
	if !f.reach(at, word.Of(wordBytes)) {
		return fails
	}
	return f.put(f.memory.Word(small(at)))
}

// store writes a word to the memory.
func (f *frame) store() ending {
	at, a := f.pop(), f.pop()
	if !f.reach(at, word.Of(wordBytes)) {
		return fails
	}
	f.memory.SetWord(small(at), a)
	return goesOn
}

// storeByte writes a word's lowest byte to the memory.
func (f *frame) storeByte() ending {
	at, a := f.pop(), f.pop()
	if !f.reach(at, word.Of(1)) {
		return fails
	}
	f.memory.Write(small(at), []byte{word.Byte(a, wordBytes-1)})
	return goesOn
}

// copy writes a part of some bytes to the memory.
func (f *frame) copy(b []byte) ending { return f.copyPart(b, f.pop(), f.pop(), f.pop()) }

// copyPart writes n bytes from a place on to a place in the memory.
func (f *frame) copyPart(b []byte, to, from, n api.Word) ending {
	if !f.reach(to, n) || !f.pay(gas.Copy(uint64(small(n)))) {
		return fails
	}
	f.memory.Write(small(to), part(b, from, small(n)))
	return goesOn
}

// copyCode writes a part of an account's code to the memory.
func (f *frame) copyCode() ending {
	a := addr.Of(f.pop())
	if !f.pay(gas.Account(f.state.Touch(a))) {
		return fails
	}
	return f.copy(f.state.Code(a))
}

// copyAnswered writes a part of what was answered to the memory.
func (f *frame) copyAnswered() ending {
	to, from, n := f.pop(), f.pop(), f.pop()
	// Their sum may go round, so they are held against the length one by one.
	all := length(f.answered)
	if word.Compare(from, all) > 0 || word.Compare(n, word.Sub(all, from)) > 0 {
		return fails
	}
	return f.copyPart(f.answered, to, from, n)
}

// end is how a frame ends that answers some bytes of the memory.
func (f *frame) end(how ending) ending {
	at, n := f.pop(), f.pop()
	if !f.reach(at, n) {
		return fails
	}
	f.answer = f.read(at, n)
	return how
}

// part are n bytes of b from a place on, with noughts behind.
func part(b []byte, from api.Word, n int) []byte {
	p := make([]byte, n)
	if place, ok := word.Small(from); ok && place < uint64(len(b)) {
		copy(p, b[place:])
	}
	return p
}
