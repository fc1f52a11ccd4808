package ops

import (
	"strconv"

	"smithy/api"
)

// Where a row of numbered instructions begins and ends, and what a jump needs.
const (
	jumpDest = 0x5b
	push0    = 0x5f
	push1    = 0x60
	push32   = 0x7f
	dup1     = 0x80
	dup16    = 0x8f
	swap1    = 0x90
	swap16   = 0x9f
	log0     = 0xa0
	log4     = 0xa4
)

const (
	movePrice = 3   // of a PUSH, a DUP, a SWAP
	logPrice  = 375 // of a LOG, and once more of each topic
)

// toldOf is what is told of an instruction; without a name, if it is none.
func toldOf(op byte) api.Op {
	switch {
	case op < 0x10:
		return arithmetic(op)
	case op < 0x30:
		return comparison(op)
	case op < 0x40:
		return environment(op)
	case op < 0x50:
		return ofBlock(op)
	case op < push1:
		return flow(op)
	case op <= push32:
		return push(belonging(op))
	case op <= dup16:
		return dup(int(op-dup1) + 1)
	case op <= swap16:
		return swap(int(op-swap1) + 1)
	case op <= log4:
		return log(int(op - log0))
	}
	return system(op)
}

// arithmetic is what is told of STOP to SIGNEXTEND.
func arithmetic(op byte) api.Op {
	switch op {
	case 0x00:
		return row("STOP", 0, 0, 0)
	case 0x01:
		return row("ADD", 2, 1, 3)
	case 0x02:
		return row("MUL", 2, 1, 5)
	case 0x03:
		return row("SUB", 2, 1, 3)
	case 0x04:
		return row("DIV", 2, 1, 5)
	case 0x05:
		return row("SDIV", 2, 1, 5)
	case 0x06:
		return row("MOD", 2, 1, 5)
	case 0x07:
		return row("SMOD", 2, 1, 5)
	case 0x08:
		return row("ADDMOD", 3, 1, 8)
	case 0x09:
		return row("MULMOD", 3, 1, 8)
	case 0x0a:
		return row("EXP", 2, 1, 10)
	case 0x0b:
		return row("SIGNEXTEND", 2, 1, 5)
	}
	return api.Op{}
}

// comparison is what is told of LT to KECCAK256.
func comparison(op byte) api.Op {
	switch op {
	case 0x10:
		return row("LT", 2, 1, 3)
	case 0x11:
		return row("GT", 2, 1, 3)
	case 0x12:
		return row("SLT", 2, 1, 3)
	case 0x13:
		return row("SGT", 2, 1, 3)
	case 0x14:
		return row("EQ", 2, 1, 3)
	case 0x15:
		return row("ISZERO", 1, 1, 3)
	case 0x16:
		return row("AND", 2, 1, 3)
	case 0x17:
		return row("OR", 2, 1, 3)
	case 0x18:
		return row("XOR", 2, 1, 3)
	case 0x19:
		return row("NOT", 1, 1, 3)
	case 0x1a:
		return row("BYTE", 2, 1, 3)
	case 0x1b:
		return row("SHL", 2, 1, 3)
	case 0x1c:
		return row("SHR", 2, 1, 3)
	case 0x1d:
		return row("SAR", 2, 1, 3)
	case 0x20:
		return row("KECCAK256", 2, 1, 30)
	}
	return api.Op{}
}

// environment is what is told of ADDRESS to EXTCODEHASH.
func environment(op byte) api.Op {
	switch op {
	case 0x30:
		return row("ADDRESS", 0, 1, 2)
	case 0x31:
		return row("BALANCE", 1, 1, 100)
	case 0x32:
		return row("ORIGIN", 0, 1, 2)
	case 0x33:
		return row("CALLER", 0, 1, 2)
	case 0x34:
		return row("CALLVALUE", 0, 1, 2)
	case 0x35:
		return row("CALLDATALOAD", 1, 1, 3)
	case 0x36:
		return row("CALLDATASIZE", 0, 1, 2)
	case 0x37:
		return row("CALLDATACOPY", 3, 0, 3)
	case 0x38:
		return row("CODESIZE", 0, 1, 2)
	case 0x39:
		return row("CODECOPY", 3, 0, 3)
	case 0x3a:
		return row("GASPRICE", 0, 1, 2)
	case 0x3b:
		return row("EXTCODESIZE", 1, 1, 100)
	case 0x3c:
		return row("EXTCODECOPY", 4, 0, 100)
	case 0x3d:
		return row("RETURNDATASIZE", 0, 1, 2)
	case 0x3e:
		return row("RETURNDATACOPY", 3, 0, 3)
	case 0x3f:
		return row("EXTCODEHASH", 1, 1, 100)
	}
	return api.Op{}
}

// ofBlock is what is told of BLOCKHASH to BASEFEE.
func ofBlock(op byte) api.Op {
	switch op {
	case 0x40:
		return row("BLOCKHASH", 1, 1, 20)
	case 0x41:
		return row("COINBASE", 0, 1, 2)
	case 0x42:
		return row("TIMESTAMP", 0, 1, 2)
	case 0x43:
		return row("NUMBER", 0, 1, 2)
	case 0x44:
		return row("PREVRANDAO", 0, 1, 2)
	case 0x45:
		return row("GASLIMIT", 0, 1, 2)
	case 0x46:
		return row("CHAINID", 0, 1, 2)
	case 0x47:
		return row("SELFBALANCE", 0, 1, 5)
	case 0x48:
		return row("BASEFEE", 0, 1, 2)
	}
	return api.Op{}
}

// flow is what is told of POP to PUSH0.
func flow(op byte) api.Op {
	switch op {
	case 0x50:
		return row("POP", 1, 0, 2)
	case 0x51:
		return row("MLOAD", 1, 1, 3)
	case 0x52:
		return row("MSTORE", 2, 0, 3)
	case 0x53:
		return row("MSTORE8", 2, 0, 3)
	case 0x54:
		return row("SLOAD", 1, 1, 100)
	case 0x55:
		return row("SSTORE", 2, 0, 100)
	case 0x56:
		return row("JUMP", 1, 0, 8)
	case 0x57:
		return row("JUMPI", 2, 0, 10)
	case 0x58:
		return row("PC", 0, 1, 2)
	case 0x59:
		return row("MSIZE", 0, 1, 2)
	case 0x5a:
		return row("GAS", 0, 1, 2)
	case jumpDest:
		return row("JUMPDEST", 0, 0, 1)
	case push0:
		return row("PUSH0", 0, 1, 2)
	}
	return api.Op{}
}

// system is what is told of CREATE to SELFDESTRUCT.
func system(op byte) api.Op {
	switch op {
	case 0xf0:
		return row("CREATE", 3, 1, 32000)
	case 0xf1:
		return row("CALL", 7, 1, 100)
	case 0xf2:
		return row("CALLCODE", 7, 1, 100)
	case 0xf3:
		return row("RETURN", 2, 0, 0)
	case 0xf4:
		return row("DELEGATECALL", 6, 1, 100)
	case 0xf5:
		return row("CREATE2", 4, 1, 32000)
	case 0xfa:
		return row("STATICCALL", 6, 1, 100)
	case 0xfd:
		return row("REVERT", 2, 0, 0)
	case 0xfe:
		return row("INVALID", 0, 0, 0)
	case 0xff:
		return row("SELFDESTRUCT", 1, 0, 5000)
	}
	return api.Op{}
}

// push is what is told of PUSHn.
func push(n int) api.Op {
	told := row(numbered("PUSH", n), 0, 1, movePrice)
	told.Data = n
	return told
}

// dup is what is told of DUPn.
func dup(n int) api.Op { return row(numbered("DUP", n), n, n+1, movePrice) }

// swap is what is told of SWAPn.
func swap(n int) api.Op { return row(numbered("SWAP", n), n+1, n+1, movePrice) }

// log is what is told of LOGn.
func log(n int) api.Op {
	return row(numbered("LOG", n), n+2, 0, logPrice+logPrice*uint64(n))
}

// numbered is the name of one of several instructions that a number tells apart.
func numbered(name string, n int) string { return name + strconv.Itoa(n) }

// row is what is told of an instruction without bytes behind, in the order of
// the chapter's table.
func row(name string, takes, puts int, gas uint64) api.Op {
	return api.Op{Name: name, Pops: takes, Pushes: puts, Gas: gas}
}
