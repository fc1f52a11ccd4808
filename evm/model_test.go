package evm_test

import (
	"maps"
	"math"
	"math/big"
	"slices"
	"strconv"
	"strings"

	"smithy/addr"
	"smithy/alu"
	"smithy/api"
	"smithy/keccak"
	"smithy/ops"
	"smithy/prec"
	"smithy/word"
)

// slot is an account's slot.
type slot struct {
	a   api.Address
	key api.Word
}

// facts are all that a state has: each fact in a map of its own, so that what
// is undone is what was copied ahead.
type facts struct {
	nonce           map[api.Address]uint64
	balance         map[api.Address]api.Word
	code            map[api.Address]string
	slots, atFirst  map[slot]api.Word
	warm, destroyed map[api.Address]bool
	warmSlots       map[slot]bool
	logs            []api.Log
	refund          int64
}

func newFacts(l []api.Account) facts {
	f := facts{
		map[api.Address]uint64{}, map[api.Address]api.Word{}, map[api.Address]string{}, map[slot]api.Word{}, map[slot]api.Word{},
		map[api.Address]bool{}, map[api.Address]bool{}, map[slot]bool{}, nil, 0,
	}
	for _, x := range l {
		f.nonce[x.Address], f.balance[x.Address], f.code[x.Address] = x.Nonce, x.Balance, string(x.Code)
		for _, s := range x.Storage {
			f.slots[slot{x.Address, s.Key}], f.atFirst[slot{x.Address, s.Key}] = s.Value, s.Value
		}
	}
	return f
}

func (f facts) copied() facts {
	return facts{
		maps.Clone(f.nonce), maps.Clone(f.balance), maps.Clone(f.code), maps.Clone(f.slots), maps.Clone(f.atFirst),
		maps.Clone(f.warm), maps.Clone(f.destroyed), maps.Clone(f.warmSlots), slices.Clone(f.logs), f.refund,
	}
}

func (f facts) empty(a api.Address) bool {
	return f.nonce[a] == 0 && f.balance[a] == api.Word{} && f.code[a] == ""
}

// model is a message's facts, and what all of its frames are told.
type model struct {
	facts
	b api.Block
	m api.Message
}

// over is how a frame ends.
type over struct {
	how  string // well, reverted, failed
	data []byte
}

// scene is a frame of the model: numbers are of any size, and the memory is
// its bytes by their places.
type scene struct {
	*model
	account, caller api.Address
	value           api.Word
	input, code     []byte
	static          bool
	depth           int
	gas             *big.Int
	stack           []api.Word
	memory          map[int64]byte
	words           int64
	answered        []byte
	at              int
}

// message is what comes of the model's message.
func (m *model) message() api.Result {
	msg := m.m
	if word.Compare(msg.Value, m.balance[msg.Caller]) > 0 {
		return api.Result{Left: msg.Gas}
	}
	x := &scene{model: m, account: msg.To, caller: msg.Caller, value: msg.Value, static: msg.Static, gas: new(big.Int).SetUint64(msg.Gas)}
	var o over
	if msg.Create {
		o = x.made(msg.Data)
	} else {
		x.input = msg.Data
		o = x.called(msg.To, msg.Value)
	}
	return api.Result{OK: o.how == "well", Reverted: o.how == "reverted", Left: x.gas.Uint64(), Data: o.data}
}

// ended catches how a frame ends, and undoes what it did.
func (x *scene) ended(do func() over) (o over) {
	before := x.facts.copied()
	defer func() {
		if r := recover(); r != nil {
			o = r.(over)
		}
		if o.how != "well" {
			x.facts = before
		}
		if o.how == "failed" {
			x.gas.SetInt64(0)
			o.data = nil
		}
	}()
	return do()
}

// called runs an account's code, or a built-in contract, with a value given.
func (x *scene) called(of api.Address, given api.Word) over {
	return x.ended(func() over {
		x.give(x.caller, x.account, given)
		if n := addr.Precompile(of); n == 2 || n == 4 || n == 5 {
			data, left, ok := prec.Run(n, x.input, x.gas.Uint64())
			x.gas.SetUint64(left)
			if !ok {
				return over{how: "failed"}
			}
			return over{"well", data}
		}
		x.code = []byte(x.facts.code[of])
		return x.goOn()
	})
}

// made runs a code that makes the frame's account.
func (x *scene) made(code []byte) over {
	return x.ended(func() over {
		if x.static || len(code) > 49152 || x.nonce[x.account] != 0 || x.facts.code[x.account] != "" {
			return over{how: "failed"}
		}
		for _, l := range []map[slot]api.Word{x.slots, x.atFirst} {
			maps.DeleteFunc(l, func(s slot, _ api.Word) bool { return s.a == x.account })
		}
		x.nonce[x.account] = 1
		x.give(x.caller, x.account, x.value)
		x.code = code
		o := x.goOn()
		if o.how != "well" {
			return o
		}
		if len(o.data) > 24576 || strings.HasPrefix(string(o.data), "\xef") {
			return over{how: "failed"}
		}
		x.pay(int64(200 * len(o.data)))
		x.facts.code[x.account] = string(o.data)
		return over{how: "well"}
	})
}

func (m *model) give(from, to api.Address, value api.Word) {
	m.balance[from] = word.Sub(m.balance[from], value)
	m.balance[to] = word.Add(m.balance[to], value)
}

// goOn does instructions until one of them ends the frame.
func (x *scene) goOn() (o over) {
	defer func() {
		if r := recover(); r != nil {
			o = r.(over)
		}
	}()
	x.memory = map[int64]byte{}
	for x.at < len(x.code) {
		told, ok := ops.Info(x.code[x.at])
		x.must(ok && len(x.stack) >= told.Pops && len(x.stack)-told.Pops+told.Pushes <= 1024)
		at := x.at
		x.at++
		x.do(told, at)
	}
	return over{how: "well"}
}

// must fails, if something isn't so.
func (x *scene) must(so bool) {
	if !so {
		panic(over{how: "failed"})
	}
}

func (x *scene) pay(price int64) {
	x.must(x.gas.Cmp(big.NewInt(price)) >= 0)
	x.gas.Sub(x.gas, big.NewInt(price))
}

func (x *scene) take() api.Word {
	a := x.stack[len(x.stack)-1]
	x.stack = x.stack[:len(x.stack)-1]
	return a
}

func (x *scene) put(a api.Word) { x.stack = append(x.stack, a) }

func (x *scene) putNumber(n int) { x.put(w(uint64(n))) }

func (x *scene) putFlag(so bool) {
	if so {
		x.putNumber(1)
	} else {
		x.putNumber(0)
	}
}

// reach pays for memory, and answers the place and the length as numbers.
func (x *scene) reach(at, n api.Word) (int64, int64) {
	if number(n).Sign() == 0 {
		return 0, 0
	}
	end := new(big.Int).Add(number(at), number(n))
	x.must(end.Cmp(big.NewInt(1<<22)) <= 0)
	words := max(x.words, (end.Int64()+31)/32)
	x.pay(3*(words-x.words) + words*words/512 - x.words*x.words/512)
	x.words = words
	return number(at).Int64(), number(n).Int64()
}

func (x *scene) bytes(at, n int64) []byte {
	b := make([]byte, n)
	for i := range b {
		b[i] = x.memory[at+int64(i)]
	}
	return b
}

func (x *scene) write(at int64, b []byte) {
	for i, c := range b {
		x.memory[at+int64(i)] = c
	}
}

// wordsOf are a length's words.
func wordsOf(n int64) int64 { return (n + 31) / 32 }

// touch pays for an account.
func (x *scene) touch(a api.Address) int64 {
	if x.warm[a] {
		return 100
	}
	x.warm[a] = true
	return 2600
}

// do does an instruction that stands at a place.
func (x *scene) do(told api.Op, place int) {
	name := told.Name
	switch {
	case alu.Takes(x.code[place]) > 0:
		x.reckon(x.code[place], told)
		return
	case strings.HasPrefix(name, "PUSH"):
		x.pay(int64(told.Gas))
		b := append(slices.Clone(x.code[place+1:]), make([]byte, 32)...)
		x.put(word.From(b[:told.Data]))
		x.at += told.Data
		return
	case strings.HasPrefix(name, "DUP"), strings.HasPrefix(name, "SWAP"):
		x.pay(int64(told.Gas))
		n, _ := strconv.Atoi(strings.TrimLeft(name, "DUPSWA"))
		last := len(x.stack) - 1
		if name[0] == 'D' {
			x.put(x.stack[last+1-n])
		} else {
			x.stack[last], x.stack[last-n] = x.stack[last-n], x.stack[last]
		}
		return
	case strings.HasPrefix(name, "LOG"):
		x.log(told.Pops - 2)
		return
	}
	if !x.tell(name, told, place) && !x.handle(name, told) {
		x.last(name)
	}
}

func (x *scene) reckon(op byte, told api.Op) {
	var l [3]api.Word
	for i := range told.Pops {
		l[i] = x.take()
	}
	price := int64(told.Gas)
	if told.Name == "EXP" {
		price += 50 * int64((number(l[1]).BitLen()+7)/8)
	}
	x.pay(price)
	a, _ := alu.Do(op, l[0], l[1], l[2])
	x.put(a)
}

// tell does what takes nothing and puts one word.
func (x *scene) tell(name string, told api.Op, place int) bool {
	known := map[string]api.Word{
		"ADDRESS": addr.Word(x.account), "ORIGIN": addr.Word(x.m.Origin), "CALLER": addr.Word(x.caller), "CALLVALUE": x.value,
		"CALLDATASIZE": w(uint64(len(x.input))), "CODESIZE": w(uint64(len(x.code))), "GASPRICE": x.m.Price,
		"RETURNDATASIZE": w(uint64(len(x.answered))), "COINBASE": addr.Word(x.b.Coinbase), "TIMESTAMP": w(x.b.Time),
		"NUMBER": w(x.b.Number), "PREVRANDAO": x.b.Random, "GASLIMIT": w(x.b.GasLimit), "CHAINID": w(x.b.Chain),
		"BASEFEE": x.b.BaseFee, "SELFBALANCE": x.balance[x.account], "PC": w(uint64(place)), "MSIZE": w(uint64(32 * x.words)),
		"GAS": w(x.gas.Uint64() - 2),
	}
	a, ok := known[name]
	if !ok {
		return false
	}
	x.pay(int64(told.Gas))
	x.put(a)
	return true
}

// handle does what works on the frame, its memory and its account's storage.
func (x *scene) handle(name string, told api.Op) bool {
	switch name {
	case "STOP":
		panic(over{how: "well"})
	case "INVALID":
		panic(over{how: "failed"})
	case "KECCAK256":
		at, n := x.reach(x.take(), x.take())
		x.pay(30 + 6*wordsOf(n))
		x.put(keccak.Word(x.bytes(at, n)))
	case "POP", "JUMPDEST":
		x.pay(int64(told.Gas))
		x.stack = x.stack[:len(x.stack)-told.Pops]
	case "MLOAD":
		x.pay(3)
		at, _ := x.reach(x.take(), w(32))
		x.put(word.From(x.bytes(at, 32)))
	case "MSTORE":
		x.pay(3)
		at, _ := x.reach(x.take(), w(32))
		b := word.Bytes(x.take())
		x.write(at, b[:])
	case "MSTORE8":
		x.pay(3)
		at, _ := x.reach(x.take(), w(1))
		x.write(at, []byte{byte(x.take()[0])})
	case "SLOAD":
		s := slot{x.account, x.take()}
		x.pay(map[bool]int64{true: 100, false: 2100}[x.warmSlots[s]])
		x.warmSlots[s] = true
		x.put(x.slots[s])
	case "SSTORE":
		x.sstore()
	case "JUMP", "JUMPI":
		x.pay(int64(told.Gas))
		to := x.take()
		if name == "JUMP" || number(x.take()).Sign() != 0 {
			x.must(ops.Dest(x.code, to))
			x.at = int(to[0])
		}
	case "CALLDATALOAD":
		x.pay(3)
		x.put(word.From(cut(x.input, x.take(), 32)))
	default:
		return false
	}
	return true
}

// sstore stores, with prices and refunds told case by case.
func (x *scene) sstore() {
	s := slot{x.account, x.take()}
	next := x.take()
	x.must(!x.static && x.gas.Cmp(big.NewInt(2300)) > 0)
	price := int64(2100)
	if x.warmSlots[s] {
		price = 0
	}
	x.warmSlots[s] = true
	first, now, none := x.atFirst[s], x.slots[s], api.Word{}
	switch {
	case now == next, first != now:
		price += 100
	case first == none:
		price += 20000
	default:
		price += 2900
	}
	x.pay(price)
	if now != next && first != none {
		if now == none {
			x.refund -= 4800
		}
		if next == none {
			x.refund += 4800
		}
	}
	if now != next && first != now && first == next {
		x.refund += map[bool]int64{true: 19900, false: 2800}[first == none]
	}
	x.slots[s] = next
}

func (x *scene) log(topics int) {
	x.must(!x.static)
	at, n := x.reach(x.take(), x.take())
	x.pay(375 + 375*int64(topics) + 8*n)
	l := api.Log{Address: x.account, Data: x.bytes(at, n)}
	for len(l.Topics) < topics {
		l.Topics = append(l.Topics, x.take())
	}
	x.logs = append(x.logs, l)
}

// copies copies a part of some bytes to the memory.
func (x *scene) copies(b []byte) {
	place, from, length := x.take(), x.take(), x.take()
	to, n := x.reach(place, length)
	x.pay(3 * wordsOf(n))
	x.write(to, cut(b, from, int(n)))
}

// last does what asks for other accounts, or begins or ends a frame.
func (x *scene) last(name string) {
	switch name {
	case "CALLDATACOPY", "CODECOPY":
		x.pay(3)
		x.copies(map[string][]byte{"CALLDATACOPY": x.input, "CODECOPY": x.code}[name])
	case "RETURNDATACOPY":
		x.pay(3)
		end := new(big.Int).Add(number(x.stack[len(x.stack)-2]), number(x.stack[len(x.stack)-3]))
		x.must(end.Cmp(big.NewInt(int64(len(x.answered)))) <= 0)
		x.copies(x.answered)
	case "EXTCODECOPY":
		a := addr.Of(x.take())
		x.pay(x.touch(a))
		x.copies([]byte(x.facts.code[a]))
	case "BALANCE", "EXTCODESIZE", "EXTCODEHASH":
		a := addr.Of(x.take())
		x.pay(x.touch(a))
		hash := api.Word{}
		if !x.empty(a) {
			hash = keccak.Word([]byte(x.facts.code[a]))
		}
		x.put(map[string]api.Word{"BALANCE": x.balance[a], "EXTCODESIZE": w(uint64(len(x.facts.code[a]))), "EXTCODEHASH": hash}[name])
	case "BLOCKHASH":
		x.pay(20)
		a, hash := x.take(), api.Word{}
		for i, h := range x.b.Hashes {
			if i < 256 && uint64(i) < x.b.Number && a == w(x.b.Number-1-uint64(i)) {
				hash = word.From(h[:])
			}
		}
		x.put(hash)
	case "RETURN", "REVERT":
		at, n := x.reach(x.take(), x.take())
		panic(over{map[string]string{"RETURN": "well", "REVERT": "reverted"}[name], x.bytes(at, n)})
	case "SELFDESTRUCT":
		x.selfDestruct(addr.Of(x.take()))
	case "CREATE", "CREATE2":
		x.create(name)
	default:
		x.call(name)
	}
}

func (x *scene) selfDestruct(heir api.Address) {
	x.must(!x.static)
	price := 5000 + x.touch(heir)
	if price == 5100 {
		price = 5000
	}
	if x.balance[x.account] != (api.Word{}) && x.empty(heir) {
		price += 25000
	}
	x.pay(price)
	x.give(x.account, heir, x.balance[x.account])
	x.balance[x.account] = api.Word{}
	x.destroyed[x.account] = true
	panic(over{how: "well"})
}

// part takes the gas that a frame is given.
func (x *scene) part(asked *big.Int) *big.Int {
	given := new(big.Int).Sub(x.gas, new(big.Int).Div(x.gas, big.NewInt(64)))
	if asked != nil && asked.Cmp(given) < 0 {
		given.Set(asked)
	}
	x.gas.Sub(x.gas, given)
	return given
}

func (x *scene) call(kind string) {
	asked, of, value := x.take(), addr.Of(x.take()), api.Word{}
	if kind == "CALL" || kind == "CALLCODE" {
		value = x.take()
	}
	valued := value != api.Word{}
	x.must(!(kind == "CALL" && valued && x.static))
	at, n := x.reach(x.take(), x.take())
	to, room := x.reach(x.take(), x.take())
	price := x.touch(of)
	if valued {
		price += 9000
	}
	if valued && kind == "CALL" && x.empty(of) {
		price += 25000
	}
	x.pay(price)
	next := &scene{model: x.model, account: of, caller: x.account, value: value, input: x.bytes(at, n), static: x.static, depth: x.depth + 1}
	next.gas = x.part(number(asked))
	given := api.Word{}
	switch kind {
	case "CALL":
		given = value
	case "CALLCODE":
		next.account = x.account
	case "DELEGATECALL":
		next.account, next.caller, next.value = x.account, x.caller, x.value
	case "STATICCALL":
		next.static = true
	}
	if valued {
		next.gas.Add(next.gas, big.NewInt(2300))
	}
	o := over{how: "not begun"}
	if x.depth < 1024 && word.Compare(x.balance[x.account], value) >= 0 {
		o = next.called(of, given)
	}
	x.gas.Add(x.gas, next.gas)
	x.answered = o.data
	x.write(to, o.data[:min(len(o.data), int(room))])
	x.putFlag(o.how == "well")
}

func (x *scene) create(kind string) {
	value, place, length, salt := x.take(), x.take(), x.take(), api.Word{}
	perWord := int64(2)
	if kind == "CREATE2" {
		salt = x.take()
		perWord = 8
	}
	x.must(!x.static && number(length).Cmp(big.NewInt(49152)) <= 0)
	at, n := x.reach(place, length)
	x.pay(32000 + perWord*wordsOf(n))
	next := &scene{model: x.model, caller: x.account, value: value, depth: x.depth + 1, gas: x.part(nil)}
	x.answered = nil
	nonce := x.nonce[x.account]
	if x.depth >= 1024 || word.Compare(x.balance[x.account], value) < 0 || nonce == math.MaxUint64 {
		x.gas.Add(x.gas, next.gas)
		x.putFlag(false)
		return
	}
	code := x.bytes(at, n)
	next.account = addr.Create(x.account, nonce)
	if kind == "CREATE2" {
		next.account = addr.Create2(x.account, salt, code)
	}
	x.nonce[x.account]++
	x.warm[next.account] = true
	o := next.made(code)
	x.gas.Add(x.gas, next.gas)
	x.answered = o.data
	if o.how == "well" {
		x.put(addr.Word(next.account))
	} else {
		x.putFlag(false)
	}
}
