package evm_test

import (
	"math"
	"math/rand/v2"

	"smithy/addr"
	"smithy/api"
	"smithy/word"
)

// draw writes codes whose instructions mostly find what they need, so that
// drawn codes go on for a while, call each other, and create each other.
type draw struct {
	*rand.Rand
	code []byte
}

func newDraw(seed uint64) *draw { return &draw{Rand: rand.New(rand.NewPCG(seed, 18))} }

// one is one of some, each as likely.
func one[T any](d *draw, l ...T) T { return l[d.IntN(len(l))] }

// places are the addresses that drawn codes know.
func places() []api.Address {
	return []api.Address{
		at(0xaa), at(0xbb), at(0xcc), at(0xdd), at(0xee), at(0x77), {0: 255, 19: 1}, {},
		at(1), at(2), at(4), at(5), at(9),
		addr.Create(at(0xaa), 0), addr.Create(at(0xbb), 5), addr.Create(at(0xaa), 1),
		addr.Create2(at(0xaa), api.Word{}, nil), addr.Create2(at(0xbb), api.Word{}, []byte{0}),
	}
}

// word is a word of any size.
func (d *draw) word() api.Word {
	switch d.IntN(6) {
	case 0:
		return one(d, w(0), w(1), w(2), w(31), w(32), w(255), w(256), w(math.MaxUint64), word.Shl(w(1), 255))
	case 1:
		return word.Not(w(d.Uint64N(4)))
	case 2:
		return api.Word{d.Uint64(), d.Uint64(), d.Uint64(), d.Uint64()}
	case 3:
		return addr.Word(one(d, places()...))
	}
	return w(d.Uint64N(40))
}

// near is a place or a length in memory: a small one, but for a few.
func (d *draw) near() api.Word {
	switch d.IntN(300) {
	case 0:
		return d.word()
	case 1, 2:
		return w(d.Uint64N(5000))
	case 3:
		return w(api.MaxMemory - 40 + d.Uint64N(80))
	}
	return w(one(d, 0, 0, 1, 4, 31, 32, 33, 64, d.Uint64N(130)))
}

// gas is what a call asks for.
func (d *draw) gas() api.Word {
	switch d.IntN(8) {
	case 0:
		return d.word()
	case 1:
		return w(d.Uint64N(3000))
	case 2:
		return w(0)
	}
	return w(d.Uint64N(60000))
}

// amount is a value.
func (d *draw) amount() api.Word {
	switch d.IntN(8) {
	case 0:
		return d.word()
	case 1, 2:
		return w(d.Uint64N(30))
	}
	return w(0)
}

// push pushes words, the first one on top, each with as few bytes as it has,
// or with more.
func (d *draw) push(words ...api.Word) {
	for i := range words {
		a := words[len(words)-1-i]
		n := word.Size(a)
		if n == 0 && d.IntN(2) == 0 {
			n = 1
		}
		if d.IntN(20) == 0 {
			n = 32
		}
		b := word.Bytes(a)
		d.code = append(append(d.code, byte(0x5f+n)), b[32-n:]...)
	}
}

func (d *draw) do(op byte, words ...api.Word) {
	d.push(words...)
	d.code = append(d.code, op)
}

func (d *draw) account() api.Word { return addr.Word(one(d, places()...)) }

// line writes one instruction of any kind, with what it takes.
func (d *draw) line() {
	switch d.IntN(22) {
	case 0:
		d.do(byte(0x01+d.IntN(11)), d.word(), d.word(), d.word())
	case 1:
		d.do(byte(0x10+d.IntN(14)), d.word(), d.word())
	case 2:
		d.do(one[byte](d, 0x30, 0x32, 0x33, 0x34, 0x36, 0x38, 0x3a, 0x3d, 0x41, 0x42, 0x43, 0x44, 0x45, 0x46, 0x47, 0x48, 0x58, 0x59, 0x5a, 0x5b))
	case 3:
		d.do(one[byte](d, 0x31, 0x3b, 0x3f), d.account())
	case 4:
		d.do(0x35, d.near())
	case 5:
		d.do(one[byte](d, 0x37, 0x39), d.near(), d.near(), d.near())
	case 6:
		d.do(0x3c, d.account(), d.near(), d.near(), d.near())
	case 7:
		if d.IntN(3) > 0 { // what there is
			d.do(0x3d)
			d.do(0x5f)
			d.do(0x3e, d.near())
		} else {
			d.do(0x3e, d.near(), one(d, w(0), w(0), w(0), w(1)), one(d, w(0), w(0), w(2), d.near()))
		}
	case 8:
		d.do(0x40, w(d.Uint64N(12)))
	case 9:
		d.do(one[byte](d, 0x51, 0x20), d.near(), d.near())
	case 10:
		d.do(one[byte](d, 0x52, 0x53), d.near(), d.word())
	case 11:
		d.do(0x54, w(d.Uint64N(4)))
	case 12, 13:
		d.do(0x55, w(d.Uint64N(4)), one(d, w(0), w(5), w(6), w(d.Uint64N(3))))
	case 14, 15:
		n := d.IntN(16)
		words := make([]api.Word, n+1)
		for i := range words {
			words[i] = d.word()
		}
		words = append(words, words[:d.IntN(2)]...)
		d.do(one(d, byte(0x80+n), byte(0x90+max(n-1, 0))), words...)
	case 16:
		n := d.IntN(5)
		d.do(byte(0xa0+n), d.near(), d.near(), d.word(), d.word(), d.word(), d.word())
	case 17:
		d.jump()
	case 18:
		d.creation()
	case 19:
		d.do(0x50, d.word())
	default:
		d.callOut()
	}
	if d.IntN(3) == 0 { // the outcome is kept
		d.do(one[byte](d, 0x52, 0x55), w(d.Uint64N(3)*32))
	}
}

// jump jumps over a few bytes, to a destination but for a few.
func (d *draw) jump() {
	over := d.IntN(4)
	to := len(d.code) + 4 + over
	if d.IntN(30) == 0 {
		to += 1 - 2*d.IntN(2)
	}
	op := byte(0x56)
	if d.IntN(2) == 0 {
		d.push(w(d.Uint64N(2)))
		op = 0x57
		to = len(d.code) + 4 + over
	}
	d.code = append(d.code, 0x61, byte(to>>8), byte(to), op)
	for range over {
		d.code = append(d.code, one[byte](d, 0x58, 0x5b, 0x5f))
	}
	d.code = append(d.code, 0x5b)
}

// callOut calls an account.
func (d *draw) callOut() {
	op := one[byte](d, 0xf1, 0xf1, 0xf2, 0xf4, 0xfa)
	words := []api.Word{d.near(), d.near(), d.near(), d.near()}
	if op == 0xf1 || op == 0xf2 {
		words = append([]api.Word{d.amount()}, words...)
	}
	to := addr.Word(one(d, at(0xaa), at(0xbb), at(0xcc), one(d, places()...)))
	d.do(op, append([]api.Word{d.gas(), to}, words...)...)
}

// creation writes a short code to the memory, and creates with it, or with any
// part of the memory.
func (d *draw) creation() {
	inner := &draw{Rand: d.Rand}
	for range d.IntN(2) {
		inner.line()
	}
	inner.finish()
	if len(inner.code) > 96 || d.IntN(8) == 0 {
		inner.code = []byte{0x60, 1, 0x5f, 0xf3}
	}
	size := len(inner.code)
	padded := append(inner.code, make([]byte, 96)...)
	for i := 0; i < size; i += 32 {
		d.do(0x52, w(uint64(i)), word.From(padded[i:i+32]))
	}
	length := w(uint64(size))
	if d.IntN(20) == 0 {
		length = one(d, d.near(), w(api.MaxInit), w(api.MaxInit+1))
	}
	if d.IntN(2) == 0 {
		d.do(0xf0, d.amount(), w(0), length)
	} else {
		d.do(0xf5, d.amount(), w(0), length, w(d.Uint64N(2)))
	}
}

// finish writes an end.
func (d *draw) finish() {
	switch d.IntN(16) {
	case 0:
		d.do(0x00)
	case 1:
		d.do(0xff, d.account())
	case 2:
		d.do(one[byte](d, 0xfe, 0x0c, 0x01))
	case 3, 4, 9, 10:
		d.do(0xfd, d.near(), d.near())
	case 5, 6, 7, 8:
		d.do(0xf3, d.near(), d.near())
	}
}

// whole is a code of so many lines at most.
func (d *draw) whole(lines int) []byte {
	d.code = nil
	if d.IntN(30) == 0 { // any bytes
		for range d.IntN(60) {
			d.code = append(d.code, byte(d.UintN(256)))
		}
		return d.code
	}
	for range d.IntN(lines) {
		d.line()
	}
	d.finish()
	return d.code
}

// storage is what an account has stored.
func (d *draw) storage() []api.Slot {
	var l []api.Slot
	for key := range uint64(4) {
		if d.IntN(2) == 0 {
			l = append(l, api.Slot{Key: w(key), Value: one(d, w(5), w(6))})
		}
	}
	return l
}

// accounts are those of a drawn world.
func (d *draw) accounts() []api.Account {
	l := []api.Account{
		{Address: at(0xaa), Balance: w(d.Uint64N(40)), Code: d.whole(14), Storage: d.storage()},
		{Address: at(0xbb), Nonce: 5, Balance: w(d.Uint64N(3)), Code: d.whole(10), Storage: d.storage()},
		{Address: at(0xcc), Code: d.whole(8)},
		{Address: at(0xdd), Nonce: one(d, 0, 7, uint64(math.MaxUint64)), Balance: w(100)},
		{Address: at(0xee), Nonce: 1},
	}
	if d.IntN(3) == 0 { // a balance, a nonce or a code where a contract is to be made
		made := one(d, places()[13:]...)
		l = append(l, one(d, api.Account{Address: made, Balance: w(3)}, api.Account{Address: made, Nonce: 1}, api.Account{Address: made, Code: []byte{0}}))
	}
	if d.IntN(20) == 0 {
		l[0].Nonce = one(d, math.MaxUint64, uint64(math.MaxUint64-1))
	}
	return l
}

// block is a drawn block.
func (d *draw) block() api.Block {
	b := api.Block{
		Number: 5 + d.Uint64N(6), Time: d.Uint64(), GasLimit: d.Uint64(), Coinbase: at(0xee),
		BaseFee: d.word(), Random: d.word(), Chain: d.Uint64N(1 << 20),
	}
	for i := range d.IntN(6) {
		b.Hashes = append(b.Hashes, api.Hash{0: byte(i + 1), 31: 7})
	}
	return b
}

// message is a drawn message to one of the accounts, or a creation.
func (d *draw) message() api.Message {
	m := api.Message{
		Caller: at(0xdd), To: one(d, at(0xaa), at(0xaa), at(0xaa), at(0xbb), at(0xcc), one(d, places()...)),
		Value: one(d, w(0), w(0), w(d.Uint64N(102))), Origin: one(d, at(0xdd), at(0x77)), Price: d.word(),
		Gas: one(d, d.Uint64N(100000), d.Uint64N(1000000), d.Uint64N(5000000), d.Uint64N(5000000)),
	}
	for range d.IntN(70) {
		m.Data = append(m.Data, byte(d.UintN(256)))
	}
	switch d.IntN(6) {
	case 0:
		m.Static = true
	case 1:
		m.Create, m.To = true, one(d, at(0x77), at(0x78), one(d, places()...))
		m.Data = d.whole(8)
	}
	return m
}
