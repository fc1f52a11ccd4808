package state_test

import (
	"fmt"
	"slices"
	"testing"

	"smithy/api"
	"smithy/state"
)

// spare is a list with room behind it, and something in it.
func spare[T any](l []T, behind T) []T {
	roomy := append(append(make([]T, 0, len(l)+3), l...), behind, behind, behind)
	return roomy[:len(l)]
}

// roomy is a world whose lists have room behind them.
func roomy(w world) world {
	c := world{}
	for a, t := range w {
		t.x.Code = spare(t.x.Code, 77)
		t.x.Storage = spare(t.x.Storage, api.Slot{Key: api.Word{7}, Value: api.Word{8}})
		c[a] = t
	}
	return c
}

// sameWorlds tells whether two worlds are the same, and the room behind the
// lists of the first one is as roomy has left it.
func sameWorlds(w, other world) bool {
	for a, t := range w {
		if !same(t.x, other[a].x) || t.known != other[a].known {
			return false
		}
		code, storage := t.x.Code, t.x.Storage
		if !slices.Equal(code[len(code):cap(code)], []byte{77, 77, 77}) {
			return false
		}
		behind := api.Slot{Key: api.Word{7}, Value: api.Word{8}}
		if !slices.Equal(storage[len(storage):cap(storage)], []api.Slot{behind, behind, behind}) {
			return false
		}
	}
	return len(w) == len(other)
}

// worn changes a list in all its memory, spare room too.
func worn[T any](l []T, change func(x *T)) {
	l = l[:cap(l)]
	for i := range l {
		change(&l[i])
	}
}

func wearByte(b *byte) { *b ^= 255 }

func wearWord(w *api.Word) { w[0]++; w[3] ^= 1 << 63 }

func wearSlot(s *api.Slot) { wearWord(&s.Key); wearWord(&s.Value) }

func wearAccount(x *api.Account) {
	worn(x.Code, wearByte)
	worn(x.Storage, wearSlot)
	x.Address[3]++
	x.Nonce++
	wearWord(&x.Balance)
	x.Code, x.Storage = nil, nil
}

func wearLog(l *api.Log) {
	worn(l.Topics, wearWord)
	worn(l.Data, wearByte)
	l.Address[3]++
	l.Topics, l.Data = nil, nil
}

// wearAll changes all that a state answers.
func wearAll(s *state.State) {
	for _, a := range pool() {
		worn(s.Code(a), wearByte)
	}
	worn(s.Logs(), wearLog)
	worn(s.Changes(), wearAccount)
}

// full is an account with all that one may have, its lists with room.
func full(a api.Address) api.Account {
	return api.Account{
		Address: a,
		Nonce:   3,
		Balance: api.Word{5, 0, 0, 1},
		Code:    spare([]byte{1, 2, 255}, 77),
		Storage: spare([]api.Slot{{Key: api.Word{}, Value: api.Word{4}}, {Key: api.Word{1}, Value: api.Word{0, 0, 0, 9}}}, api.Slot{Key: api.Word{7}}),
	}
}

// accounts is a list of such accounts, with room; two are of one address.
func accounts() []api.Account {
	l := []api.Account{full(pool()[0]), full(pool()[1]), full(pool()[0]), {Address: pool()[2]}}
	l[2].Nonce = 99
	return spare(l, full(pool()[3]))
}

// log is one with topics and data, with room.
func log() api.Log {
	return api.Log{Address: pool()[0], Topics: spare([]api.Word{{1}, {0, 2}}, api.Word{77}), Data: spare([]byte{9, 8}, 77)}
}

// worldTold is what a world answers, as one text.
func worldTold(w state.World) string {
	text := ""
	for _, a := range pool() {
		x, known := w.Account(a)
		text += fmt.Sprintln(x, known)
	}
	return text
}

func TestHandedInStays(t *testing.T) {
	l, before := accounts(), accounts()
	code, logged := spare([]byte{1, 2}, 77), log()
	s := state.New(state.List(l))
	s.SetCode(pool()[0], code)
	s.SetCode(pool()[3], code)
	s.Log(logged)
	s.Log(logged)
	s.Make(pool()[0])
	s.Set(pool()[1], api.Word{1}, api.Word{})
	s.Set(pool()[1], api.Word{}, api.Word{1})
	s.SetCode(pool()[0], nil)
	s.Back(2)
	s.SetCode(pool()[1], []byte{5, 6, 7, 8})
	wearAll(s)
	for i, x := range l[:cap(l)] {
		y := before[:cap(before)][i]
		if !same(x, y) || !slices.Equal(x.Code[:cap(x.Code)], y.Code[:cap(y.Code)]) || !slices.Equal(x.Storage[:cap(x.Storage)], y.Storage[:cap(y.Storage)]) {
			t.Errorf("account %d is changed: %v", i, x)
		}
	}
	if !slices.Equal(code[:cap(code)], []byte{1, 2, 77, 77, 77}) {
		t.Errorf("the code is changed: %v", code[:cap(code)])
	}
	if fmt.Sprint(logged, logged.Topics[:cap(logged.Topics)], logged.Data[:cap(logged.Data)]) !=
		fmt.Sprint(log(), log().Topics[:cap(log().Topics)], log().Data[:cap(log().Data)]) {
		t.Errorf("the log is changed: %v", logged)
	}
}

func TestHandedInIsNotKept(t *testing.T) {
	l := accounts()
	w := state.List(l)
	ahead, behind := state.New(w), state.New(w)
	first, atFirst := worldTold(w), asked(ahead)
	worn(l, wearAccount)
	if got := worldTold(w); got != first {
		t.Errorf("the world was\n%s\nand is\n%s", first, got)
	}
	for _, s := range []*state.State{ahead, behind, state.New(w)} {
		if got := asked(s); got != atFirst {
			t.Errorf("a state was\n%s\nand is\n%s", atFirst, got)
		}
	}
	code, logged := spare([]byte{1, 2}, 77), log()
	s := state.New(w)
	s.SetCode(pool()[0], code)
	s.SetCode(pool()[3], code)
	s.Log(logged)
	s.Log(logged)
	before := asked(s)
	worn(code, wearByte)
	wearLog(&logged)
	if got := asked(s); got != before {
		t.Errorf("the state was\n%s\nand is\n%s", before, got)
	}
	s.SetCode(pool()[0], []byte{5})
	s.Log(api.Log{})
	s.Back(4)
	if got := asked(s); got != before {
		t.Errorf("the state was\n%s\nand is, behind a mark,\n%s", before, got)
	}
}

// Each byte, slot and topic that is answered is changed: nobody else's is.
func TestAnswersAreNobodyElses(t *testing.T) {
	w := state.List(accounts())
	s := state.New(w)
	s.SetCode(pool()[3], []byte{1, 2, 3})
	s.Log(log())
	s.Log(log())
	s.Log(api.Log{Address: pool()[1]})
	s.Set(pool()[0], api.Word{1}, api.Word{5})
	s.Set(pool()[3], api.Word{1}, api.Word{5})
	s.SetNonce(pool()[1], 4)
	before, first := asked(s), worldTold(w)
	for _, a := range pool() {
		one, other := s.Code(a), s.Code(a)
		text := fmt.Sprint(other)
		worn(one, wearByte)
		if fmt.Sprint(other) != text {
			t.Errorf("Code(%v) answers the same memory twice", a)
		}
		x, _ := w.Account(a)
		wearAccount(&x)
	}
	wearEach(t, s.Logs, wearLog)
	wearEach(t, s.Changes, wearAccount)
	if got := asked(s); got != before {
		t.Errorf("the state was\n%s\nand is\n%s", before, got)
	}
	if got := worldTold(w); got != first {
		t.Errorf("the world was\n%s\nand is\n%s", first, got)
	}
	if got := asked(state.New(w)); got != asked(state.New(state.List(accounts()))) {
		t.Errorf("a new state is\n%s", got)
	}
}

// wearEach changes each element of an answer by itself, and tells whether all
// others are as they were.
func wearEach[T any](t *testing.T, answer func() []T, wear func(x *T)) {
	t.Helper()
	for i := range answer() {
		one, other := answer(), answer()
		before := fmt.Sprint(other)
		rest := fmt.Sprint(one[:i], one[i+1:])
		wear(&one[i])
		if got := fmt.Sprint(other); got != before {
			t.Errorf("another answer was\n%s\nand is\n%s", before, got)
		}
		if got := fmt.Sprint(one[:i], one[i+1:]); got != rest {
			t.Errorf("the other elements were\n%s\nand are\n%s", rest, got)
		}
		one = one[:cap(one)]
		clear(one)
		if got := fmt.Sprint(other); got != before {
			t.Errorf("another answer was\n%s\nand is\n%s", before, got)
		}
	}
}

// A world may hand out memory that it uses anew.
type forgetful struct{ code []byte }

func (w *forgetful) Account(a api.Address) (api.Account, bool) {
	copy(w.code, a[18:])
	return api.Account{Address: a, Code: w.code}, true
}

func TestWorldUsesItsMemoryAnew(t *testing.T) {
	s := state.New(&forgetful{make([]byte, 2)})
	for range 2 {
		for _, a := range pool() {
			if got := s.Code(a); !slices.Equal(got, a[18:]) {
				t.Errorf("Code(%v): %v", a, got)
			}
		}
		if l := s.Changes(); len(l) != 0 {
			t.Errorf("Changes: %v", l)
		}
	}
}
