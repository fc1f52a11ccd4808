package evm_test

import (
	"fmt"
	"strings"
	"testing"

	"smithy/api"
	"smithy/evm"
	"smithy/keccak"
	"smithy/state"
	"smithy/word"
)

// several are accounts of each kind, beside aa with its code.
func several(code string) []api.Account {
	return []api.Account{
		account(0xaa, 7, code),
		account(0x10, 300, "1 2 3"),
		{Address: at(0x11), Nonce: 1},
		{Address: at(0x12), Balance: word.Shl(w(1), 255)},
		account(0x13, 0, "STOP"),
		{Address: at(0x14), Storage: []api.Slot{{Key: w(1), Value: w(1)}}},
	}
}

func TestP181Looks(t *testing.T) {
	none := keccak.Word(nil)
	for _, x := range []struct {
		name string
		want map[byte]api.Word
	}{
		{"BALANCE", map[byte]api.Word{0x10: w(300), 0x12: word.Shl(w(1), 255), 0xaa: w(7)}},
		{"EXTCODESIZE", map[byte]api.Word{0x10: w(6), 0x13: w(1)}},
		{"EXTCODEHASH", map[byte]api.Word{0x10: keccak.Word(asm("1 2 3")), 0x11: none, 0x12: none, 0x13: keccak.Word([]byte{0})}},
	} {
		for _, n := range []byte{0x10, 0x11, 0x12, 0x13, 0x14, 0x15, 0, 1, 4, 0xaa} {
			code := fmt.Sprintf("@%02x %s", n, x.name)
			want := x.want[n]
			if n == 0xaa && x.name == "EXTCODESIZE" {
				want = w(uint64(len(asm(code + top))))
			}
			if n == 0xaa && x.name == "EXTCODEHASH" {
				want = keccak.Word(asm(code + top))
			}
			s, r := ran(several(code+top), to(plenty))
			if got := word.From(r.Data); !r.OK || got != want {
				t.Errorf("%s: %s, want %s", code, text(got), text(want))
			}
			warmed(t, code, s, n)
			costsOf(t, several(code), code, 3+2600)
			costsOf(t, several(code+" POP "+code), code+" twice", 2*3+2600+2+100)
			// Of a word that is more than an address its last bytes count.
			dirty := text(word.Add(word.Shl(allBits(), 160), w(uint64(n)))) + " " + x.name
			if _, r := ran(several(dirty+top), to(plenty)); n != 0xaa && word.From(r.Data) != want {
				t.Errorf("%s: %x", dirty, r.Data)
			}
		}
		warm := state.New(state.List(several("@10 " + x.name)))
		warm.Touch(at(0x10))
		if r := evm.Run(warm, block(), to(1000)); !same(r, api.Result{OK: true, Left: 897}) {
			t.Errorf("%s of an account that is warm ahead: %+v", x.name, r)
		}
	}
	well(t, "ADDRESS BALANCE"+top, digits(7))
	well(t, "SELFBALANCE"+top, digits(7))
}

// What another instruction touched is warm for all others.
func TestP181WarmForAll(t *testing.T) {
	const cold, warm = 2600, 100
	touches := []string{
		"@10 BALANCE POP", "@10 EXTCODESIZE POP", "@10 EXTCODEHASH POP", "0 0 0 @10 EXTCODECOPY",
		"0 0 0 0 0 @10 0 CALL POP", "0 0 0 0 0 @10 0 CALLCODE POP", "0 0 0 0 @10 0 DELEGATECALL POP", "0 0 0 0 @10 0 STATICCALL POP",
	}
	for _, a := range touches {
		for _, b := range touches {
			_, one := ran(several(a), to(plenty))
			_, two := ran(several(b+" "+a), to(plenty))
			_, ahead := ran(several(b), to(plenty))
			if one.Left-two.Left != plenty-ahead.Left-cold+warm {
				t.Errorf("%s behind %s: %d, and %d alone", a, b, plenty-two.Left, plenty-one.Left)
			}
		}
	}
	_, r := ran(several("@10 BALANCE POP @10 SELFDESTRUCT"), to(plenty))
	if plenty-r.Left != 3+2600+2+3+5000 {
		t.Errorf("SELFDESTRUCT to a warm account: %d", plenty-r.Left)
	}
	s, _ := ran(several(strings.Join(touches, " ")), to(plenty))
	warmed(t, "all", s, 0x10)
}

// stored is aa with slots 0, 1 and 2^255 that have 0, 5 and 6.
func stored(code string) []api.Account {
	a := account(0xaa, 7, code)
	a.Storage = []api.Slot{{Key: w(1), Value: w(5)}, {Key: word.Shl(w(1), 255), Value: w(6)}}
	return usual(a)
}

func TestP181Sload(t *testing.T) {
	for _, x := range []struct{ key, want api.Word }{
		{w(0), w(0)}, {w(1), w(5)}, {word.Shl(w(1), 255), w(6)}, {word.Shl(w(1), 64), w(0)}, {minus(1), w(0)},
	} {
		code := text(x.key) + " SLOAD"
		s, r := ran(stored(code+top), to(plenty))
		if word.From(r.Data) != x.want {
			t.Errorf("%s: %x", code, r.Data)
		}
		if s.TouchSlot(at(0xaa), x.key) || !s.TouchSlot(at(0xaa), w(77)) || !s.TouchSlot(at(0xbb), x.key) {
			t.Errorf("%s: other slots are warm", code)
		}
		warmed(t, code, s)
		costsOf(t, stored(code), code, 2103)
		costsOf(t, stored(code+" "+code), code+" twice", 2103+103)
	}
	costsOf(t, stored("0 1 SSTORE 1 SLOAD"), "a slot that SSTORE touched", 6+5000+3+100)
	if _, r := ran(stored("8 1 SSTORE 1 SLOAD"+top), to(plenty)); word.From(r.Data) != w(8) {
		t.Errorf("what was stored: %x", r.Data)
	}
}

// Rows of stores to a slot, with what they cost and refund while it is warm.
func TestP181SstoreRows(t *testing.T) {
	for _, x := range []struct {
		first  uint64
		row    []uint64
		gas    uint64
		refund int64
	}{
		{0, []uint64{0, 0}, 200, 0},
		{0, []uint64{0, 1}, 20100, 0},
		{0, []uint64{1, 0}, 20100, 19900},
		{0, []uint64{1, 2}, 20100, 0},
		{0, []uint64{1, 1}, 20100, 0},
		{1, []uint64{0, 0}, 3000, 4800},
		{1, []uint64{0, 1}, 3000, 2800},
		{1, []uint64{0, 2}, 3000, 0},
		{1, []uint64{2, 0}, 3000, 4800},
		{1, []uint64{2, 3}, 3000, 0},
		{1, []uint64{2, 1}, 3000, 2800},
		{1, []uint64{2, 2}, 3000, 0},
		{1, []uint64{1, 0}, 3000, 4800},
		{1, []uint64{1, 2}, 3000, 0},
		{1, []uint64{1, 1}, 200, 0},
		{0, []uint64{1, 0, 1}, 40100, 19900},
		{1, []uint64{0, 1, 0}, 5900, 7600},
	} {
		code, a := "", account(0xaa, 7, "")
		for _, next := range x.row {
			code += text(w(next)) + " 9 SSTORE "
		}
		a.Code = asm(code)
		if x.first != 0 {
			a.Storage = []api.Slot{{Key: w(9), Value: w(x.first)}}
		}
		pushes := uint64(6 * len(x.row))
		for _, cold := range []bool{true, false} {
			s := state.New(state.List([]api.Account{a}))
			want := pushes + x.gas + 2100
			if !cold {
				s.TouchSlot(at(0xaa), w(9))
				want -= 2100
			}
			r := evm.Run(s, block(), to(plenty))
			last := w(x.row[len(x.row)-1])
			if !r.OK || plenty-r.Left != want || s.Refund() != x.refund || s.Load(at(0xaa), w(9)) != last {
				t.Errorf("%d, then %v, cold: %t: %d, %d, want %d, %d", x.first, x.row, cold, plenty-r.Left, s.Refund(), want, x.refund)
			}
			if s.TouchSlot(at(0xaa), w(9)) {
				t.Errorf("%d, then %v: the slot is cold", x.first, x.row)
			}
		}
	}
}

func TestP181SstoreCosts(t *testing.T) {
	costsOf(t, stored("1 0 SSTORE"), "a new slot", 6+22100)
	costsOf(t, stored("6 1 SSTORE"), "another word", 6+5000)
	costsOf(t, stored("0 1 SSTORE"), "none any more", 6+5000)
	costsOf(t, stored("1 SLOAD 6 1 SSTORE"), "a warm one", 3+2100+6+2900)
	key := text(word.Shl(w(1), 255))
	s, r := ran(stored(text(minus(1))+" "+key+" SSTORE"), to(plenty))
	if !r.OK || s.Load(at(0xaa), word.Shl(w(1), 255)) != minus(1) || s.Load(at(0xaa), w(1)) != w(5) {
		t.Errorf("%+v, %v", r, s.Changes())
	}
}

func TestP181SstoreNeeds2301(t *testing.T) {
	for _, x := range []struct {
		code string
		gas  uint64 // ahead of the store
		left uint64 // of 2301
	}{
		{"5 1 SSTORE", 6, 2301 - 2200},
		{"0 0 SSTORE", 6, 2301 - 2200},
		{"1 SLOAD POP 5 1 SSTORE", 3 + 2100 + 2 + 6, 2301 - 100},
	} {
		s, r := ran(stored(x.code), to(x.gas+2301))
		if !same(r, api.Result{OK: true, Left: x.left}) {
			t.Errorf("%s with 2301: %+v", x.code, r)
		}
		changed(t, x.code, s)
		for _, less := range []uint64{2300, 2299, 2200, 100, 1, 0} {
			s, r := ran(stored(x.code), to(x.gas+less))
			if !same(r, api.Result{}) {
				t.Errorf("%s with %d: %+v", x.code, less, r)
			}
			unchanged(t, x.code, s)
		}
	}
}

func TestP181Logs(t *testing.T) {
	topics := []string{"", "", "", "", ""}
	for n := range topics {
		words, code := []api.Word(nil), ""
		for i := range n {
			words = append(words, word.Shl(w(uint64(i+1)), 250))
		}
		for i := range n {
			code += text(words[n-1-i]) + " "
		}
		name := fmt.Sprintf("LOG%d", n)
		fill := "258 0 MSTORE "
		pushes := uint64(3 * n)
		for _, x := range []struct {
			at   string
			data []byte
			gas  uint64
		}{
			{"0 0 ", nil, 0},
			{"0 " + text(minus(1)) + " ", nil, 0},
			{"1 31 ", []byte{2}, 8},
			{"4 30 ", []byte{1, 2, 0, 0}, 32 + 3},
			{"33 31 ", append([]byte{2}, make([]byte, 32)...), 264 + 3},
		} {
			all := fill + code + x.at + name
			s, r := run(all, plenty)
			if !r.OK || plenty-r.Left != 12+pushes+6+375+375*uint64(n)+x.gas {
				t.Errorf("%s: %d", all, plenty-r.Left)
			}
			logged(t, all, s, api.Log{Address: at(0xaa), Topics: words, Data: x.data})
			changed(t, all, s)
			costs(t, all, 12+pushes+6+375+375*uint64(n)+x.gas)
		}
		two, _ := run(code+"0 0 "+name+" "+code+"1 0 "+name, plenty)
		logged(t, "two logs", two, api.Log{Address: at(0xaa), Topics: words}, api.Log{Address: at(0xaa), Topics: words, Data: []byte{0}})
	}
}

func TestP181SelfDestruct(t *testing.T) {
	for _, x := range []struct {
		what    string
		balance uint64
		code    string
		gas     uint64
		behind  []api.Account
	}{
		{"to another one", 7, "@ee SELFDESTRUCT #fe", 3 + 5000 + 2600, []api.Account{{Address: at(0xee), Balance: w(16)}}},
		{"to another one, without a balance", 0, "@ee SELFDESTRUCT", 3 + 5000 + 2600, nil},
		{"to a warm one", 7, "@ee BALANCE @ee SELFDESTRUCT", 3 + 2600 + 3 + 5000, []api.Account{{Address: at(0xee), Balance: w(16)}}},
		{"to an empty one", 7, "@77 SELFDESTRUCT", 3 + 5000 + 2600 + 25000, []api.Account{{Address: at(0x77), Balance: w(7)}}},
		{"to an empty warm one", 7, "@77 BALANCE @77 SELFDESTRUCT", 3 + 2600 + 3 + 5000 + 25000, []api.Account{{Address: at(0x77), Balance: w(7)}}},
		{"to an empty one, without a balance", 0, "@77 SELFDESTRUCT", 3 + 5000 + 2600, nil},
		{"to a built-in contract", 7, "4 SELFDESTRUCT", 3 + 5000 + 2600 + 25000, []api.Account{{Address: at(4), Balance: w(7)}}},
		{"to one with a code alone", 7, "@bb SELFDESTRUCT", 3 + 5000 + 2600, []api.Account{{Address: at(0xbb), Balance: w(7), Code: asm("42" + top)}}},
		{"to itself", 7, "ADDRESS SELFDESTRUCT", 2 + 5000 + 2600, nil},
		{"to itself, without a balance", 0, "ADDRESS SELFDESTRUCT", 2 + 5000 + 2600, nil},
		{"of more than an address", 7, text(word.Add(word.Shl(allBits(), 160), w(0xee))) + " SELFDESTRUCT", 3 + 5000 + 2600, []api.Account{{Address: at(0xee), Balance: w(16)}}},
	} {
		l := usual(account(0xaa, x.balance, x.code))
		s, r := ran(l, to(plenty))
		if !r.OK || len(r.Data) != 0 || plenty-r.Left != x.gas || !s.Destroyed(at(0xaa)) || s.Balance(at(0xaa)) != w(0) {
			t.Errorf("%s: %+v, %d", x.what, r, plenty-r.Left)
		}
		if len(s.Code(at(0xaa))) == 0 || s.Destroyed(at(0xee)) || s.Refund() != 0 {
			t.Errorf("%s: more is done than said", x.what)
		}
		changed(t, x.what, s, append(x.behind, api.Account{Address: at(0xaa)})...)
		costsOf(t, l, x.what, x.gas)
	}
}

// Behind its end an account runs on, and may be given something once more.
func TestP181SelfDestructTwice(t *testing.T) {
	bb := account(0xbb, 5, "CALLVALUE @ee SELFDESTRUCT")
	call := "0 0 0 0 3 @bb 100000 CALL POP "
	l := []api.Account{account(0xaa, 7, call+call+"0 0 0 0 1 @ee 0 CALL"), bb, account(0xee, 9, "")}
	s, r := ran(l, to(plenty))
	if !r.OK || !s.Destroyed(at(0xbb)) || s.Destroyed(at(0xaa)) {
		t.Errorf("%+v", r)
	}
	aa := l[0]
	aa.Balance = w(0)
	changed(t, "twice", s, aa, api.Account{Address: at(0xbb)}, api.Account{Address: at(0xee), Balance: w(9 + 5 + 3 + 3 + 1)})
	// The code of another one destroys whose frame it is.
	code := "0 0 0 0 @bb 100000 DELEGATECALL"
	s, r = ran([]api.Account{account(0xaa, 7, code+top), bb, account(0xee, 9, "")}, to(plenty))
	if !r.OK || !s.Destroyed(at(0xaa)) || s.Destroyed(at(0xbb)) || word.From(r.Data) != w(1) {
		t.Errorf("%+v", r)
	}
	changed(t, code, s, api.Account{Address: at(0xaa)}, api.Account{Address: at(0xee), Balance: w(16)})
}

func TestP184SelfDestructToItselfMakesNothing(t *testing.T) {
	l := []api.Account{account(0xaa, 7, "0 0 0 0 0 @bb 100000 CALL @bb BALANCE"+top), account(0xbb, 5, "ADDRESS SELFDESTRUCT")}
	s, r := ran(l, to(plenty))
	if word.From(r.Data) != w(0) || s.Balance(at(0xbb)) != w(0) || s.Balance(at(0xaa)) != w(7) {
		t.Errorf("%+v", r)
	}
}
