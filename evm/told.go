package evm

import (
	"smithy/addr"
	"smithy/api"
	"smithy/word"
)

// lastBlocks is of how many blocks a code is told the hash.
const lastBlocks = 256

// told is the word that an instruction puts that takes none.
func (f *frame) told(op byte) api.Word {
	switch op {
	case opAddress:
		return addr.Word(f.account)
	case opOrigin:
		return addr.Word(f.origin)
	case opCaller:
		return addr.Word(f.caller)
	case opCallValue:
		return f.value
	case opCallDataSize:
		return length(f.input)
	case opCodeSize:
		return length(f.code)
	case opGasPrice:
		return f.price
	case opReturnDataSize:
		return length(f.answered)
	case opSelfBalance:
		return f.state.Balance(f.account)
	case opPC:
		return word.Of(uint64(f.at - 1))
	case opMsize:
		return word.Of(uint64(f.memory.Len()))
	case opGas:
		return word.Of(f.gas)
	}
	return ofBlock(f.block, op)
}

// ofBlock is what an instruction tells of the block.
func ofBlock(b api.Block, op byte) api.Word {
	switch op {
	case opCoinbase:
		return addr.Word(b.Coinbase)
	case opTimestamp:
		return word.Of(b.Time)
	case opNumber:
		return word.Of(b.Number)
	case opPrevRandao:
		return b.Random
	case opGasLimit:
		return word.Of(b.GasLimit)
	case opChainID:
		return word.Of(b.Chain)
	case opBaseFee:
		return b.BaseFee
	}
	return api.Word{}
}

// blockHash is the hash of a block ahead of this one, or 0.
func blockHash(b api.Block, number api.Word) api.Word {
	n, ok := word.Small(number)
	if !ok || n >= b.Number || b.Number-n > lastBlocks {
		return api.Word{}
	}
	ahead := b.Number - n - 1
	if ahead >= uint64(len(b.Hashes)) {
		return api.Word{}
	}
	return word.From(b.Hashes[ahead][:])
}

// length is a number of bytes as a word.
func length(b []byte) api.Word { return word.Of(uint64(len(b))) }
