package evm_test

import (
	"bytes"
	"encoding/hex"
	"fmt"
	"maps"
	"math/big"
	"slices"
	"strings"
	"testing"

	"smithy/addr"
	"smithy/api"
	"smithy/evm"
	"smithy/ops"
	"smithy/state"
	"smithy/word"
)

// plenty is more gas than any code of these tests needs.
const plenty = 1 << 32

// The words that tests end with: the top of the stack is answered, or the
// first 32, 64 or 128 bytes of the memory.
const (
	top    = " 0 MSTORE 32 0 RETURN"
	first  = " 32 0 RETURN"
	second = " 64 0 RETURN"
	fourth = " 128 0 RETURN"
)

func at(n byte) api.Address { return api.Address{19: n} }

func w(n uint64) api.Word { return api.Word{n} }

// allBits is the greatest word.
func allBits() api.Word { return word.Not(api.Word{}) }

// number is a word as a number.
func number(a api.Word) *big.Int {
	n := new(big.Int)
	for i := 3; i >= 0; i-- {
		n.Lsh(n, 64).Or(n, new(big.Int).SetUint64(a[i]))
	}
	return n
}

// text is a word as a number's digits, as asm reads them.
func text(a api.Word) string { return number(a).String() }

// named are the instructions' bytes by their names.
func named() map[string]byte {
	l := map[string]byte{}
	for op := range 256 {
		if told, ok := ops.Info(byte(op)); ok {
			l[told.Name] = byte(op)
		}
	}
	return l
}

// asm is the code of a text: a number is pushed with as few bytes as it has,
// but at least one (so that each costs 3), @ab is the address that ends with
// these bytes, likewise, #ab are these bytes themselves, and the rest are names.
func asm(text string) []byte {
	names := named()
	var code []byte
	for _, part := range strings.Fields(text) {
		if op, ok := names[part]; ok {
			code = append(code, op)
			continue
		}
		if digits, ok := strings.CutPrefix(part, "#"); ok {
			b, err := hex.DecodeString(digits)
			if err != nil {
				panic(part)
			}
			code = append(code, b...)
			continue
		}
		n, ok := new(big.Int).SetString(strings.Replace(part, "@", "0x", 1), 0)
		if !ok || n.BitLen() > 256 {
			panic("what is " + part + "?")
		}
		b := n.FillBytes(make([]byte, max(1, (n.BitLen()+7)/8)))
		code = append(append(code, byte(0x5f+len(b))), b...)
	}
	return code
}

// account is one with a balance and a code.
func account(n byte, balance uint64, text string) api.Account {
	return api.Account{Address: at(n), Balance: w(balance), Code: asm(text)}
}

// usual are the accounts that stand beside a code's own, aa: bb with a code,
// dd that calls, ee with a balance alone.
func usual(l ...api.Account) []api.Account {
	return append(l, account(0xbb, 0, "42"+top), account(0xdd, 100, ""), account(0xee, 9, ""))
}

// block is the block that codes run in.
func block() api.Block {
	b := api.Block{
		Number: 1000, Time: 77, GasLimit: 88, Coinbase: at(0xc0), BaseFee: word.Shl(w(3), 200),
		Random: word.Shl(w(5), 190), Chain: 66,
	}
	for i := range 300 {
		b.Hashes = append(b.Hashes, hashAhead(uint64(i)))
	}
	return b
}

// hashAhead is the hash of the i-th block ahead.
func hashAhead(i uint64) api.Hash { return api.Hash{0: 1, 30: byte(i >> 8), 31: byte(i)} }

// to is a message from dd to aa.
func to(gas uint64) api.Message {
	return api.Message{Caller: at(0xdd), Origin: at(0xde), Price: word.Shl(w(9), 100), To: at(0xaa), Gas: gas}
}

// ran is what comes of a message on a new state.
func ran(l []api.Account, m api.Message) (*state.State, api.Result) {
	s := state.New(state.List(l))
	return s, evm.Run(s, block(), m)
}

// run is what comes of a code as aa's.
func run(code string, gas uint64) (*state.State, api.Result) {
	return ran(usual(account(0xaa, 7, code)), to(gas))
}

// well tells whether a code goes well, and answers the bytes of these digits.
func well(t *testing.T, code, want string) {
	t.Helper()
	_, r := run(code, plenty)
	if got := hex.EncodeToString(r.Data); !r.OK || got != want {
		t.Errorf("%s:\nanswers %s, %t\nwant    %s", code, got, r.OK, want)
	}
}

// puts tells whether a code goes well, and leaves a word on top.
func puts(t *testing.T, code string, want api.Word) {
	t.Helper()
	b := word.Bytes(want)
	well(t, code+top, hex.EncodeToString(b[:]))
}

// failing tells whether a code fails: all its gas is gone, nothing is answered,
// and nothing has changed.
func failing(t *testing.T, code string, gas uint64) {
	t.Helper()
	s, r := run(code, gas)
	if !same(r, api.Result{}) {
		t.Errorf("%s with a gas of %d: %+v", code, gas, r)
	}
	unchanged(t, code, s)
}

// unchanged tells whether nothing has been done in a state.
func unchanged(t *testing.T, what string, s *state.State) {
	t.Helper()
	if s.Mark() != 0 || len(s.Changes()) != 0 || len(s.Logs()) != 0 || s.Refund() != 0 {
		t.Errorf("%s: %d things are done: %v, %v, %d", what, s.Mark(), s.Changes(), s.Logs(), s.Refund())
	}
}

// costs tells whether a code goes well, and needs just so much gas: with one
// less it fails.
func costs(t *testing.T, code string, gas uint64) {
	t.Helper()
	costsOf(t, usual(account(0xaa, 7, code)), code, gas)
}

func costsOf(t *testing.T, l []api.Account, what string, gas uint64) {
	t.Helper()
	for _, more := range []uint64{0, 1, 5000, plenty} {
		if _, r := ran(l, to(gas+more)); !r.OK || r.Left != more {
			t.Errorf("%s with a gas of %d + %d: %t, %d left", what, gas, more, r.OK, r.Left)
		}
	}
	s, r := ran(l, to(gas-1))
	if !same(r, api.Result{}) {
		t.Errorf("%s with a gas of %d - 1: %+v", what, gas, r)
	}
	unchanged(t, what, s)
}

// takes tells whether a code goes well, and takes just so much of a gas that is
// plenty: with less a frame that it begins might fail, and it alone.
func takes(t *testing.T, code string, gas uint64) {
	t.Helper()
	if _, r := run(code, plenty); !r.OK || plenty-r.Left != gas {
		t.Errorf("%s takes %d, want %d: %+v", code, plenty-r.Left, gas, r)
	}
}

// same tells whether two results are the same.
func same(a, b api.Result) bool {
	return a.OK == b.OK && a.Reverted == b.Reverted && a.Left == b.Left && bytes.Equal(a.Data, b.Data)
}

// changed tells whether just these accounts have changed, to what is said.
func changed(t *testing.T, what string, s *state.State, want ...api.Account) {
	t.Helper()
	slices.SortFunc(want, func(a, b api.Account) int { return addr.Compare(a.Address, b.Address) })
	got := s.Changes()
	if !slices.EqualFunc(got, want, sameAccount) {
		t.Errorf("%s: changed are\n%v\nwant\n%v", what, got, want)
	}
}

func sameAccount(a, b api.Account) bool {
	return a.Address == b.Address && a.Nonce == b.Nonce && a.Balance == b.Balance &&
		bytes.Equal(a.Code, b.Code) && slices.Equal(a.Storage, b.Storage)
}

// logged tells whether just these logs are logged.
func logged(t *testing.T, what string, s *state.State, want ...api.Log) {
	t.Helper()
	if got := s.Logs(); !slices.EqualFunc(got, want, sameLog) {
		t.Errorf("%s: logged are\n%v\nwant\n%v", what, got, want)
	}
}

func sameLog(a, b api.Log) bool {
	return a.Address == b.Address && slices.Equal(a.Topics, b.Topics) && bytes.Equal(a.Data, b.Data)
}

// warmed tells whether just these accounts of those below 0x0100 are warm. It
// makes all of them so.
func warmed(t *testing.T, what string, s *state.State, want ...byte) {
	t.Helper()
	var got []byte
	for n := range 256 {
		if !s.Touch(at(byte(n))) {
			got = append(got, byte(n))
		}
	}
	slices.Sort(want)
	if !slices.Equal(got, want) {
		t.Errorf("%s: warm are %x, want %x", what, got, want)
	}
}

// digits is the writing of a number's 32 bytes.
func digits(n uint64) string { return fmt.Sprintf("%064x", n) }

// sorted are a map's keys, rising.
func sorted[V any](l map[string]V) []string { return slices.Sorted(maps.Keys(l)) }
