package state_test

import (
	"fmt"
	"math"
	"math/rand/v2"
	"slices"
	"testing"

	"smithy/api"
	"smithy/state"
)

// at is the address of a small number.
func at(n byte) api.Address { return api.Address{19: n} }

// w is a word of a small number.
func w(n uint64) api.Word { return api.Word{n} }

// slots are slots of these keys and values, one behind the other.
func slots(l ...uint64) []api.Slot {
	var s []api.Slot
	for i := 0; i < len(l); i += 2 {
		s = append(s, api.Slot{Key: w(l[i]), Value: w(l[i+1])})
	}
	return s
}

// few is a world of the accounts 1 and 2, all others known to be empty; only 1
// has something.
func few() state.World {
	return state.List([]api.Account{{Address: at(1), Nonce: 3, Balance: w(5), Code: []byte{6}, Storage: slots(1, 7, 2, 8)}, {Address: at(2)}})
}

// changes tells whether a state's changes are these.
func changes(t *testing.T, s *state.State, want ...api.Account) {
	t.Helper()
	if l := s.Changes(); !slices.EqualFunc(l, want, same) {
		t.Errorf("Changes: %v, want %v", l, want)
	}
}

// stored tells whether an account's slots 1, 2 and so on have these words.
func stored(t *testing.T, load func(a api.Address, key api.Word) api.Word, a api.Address, want ...uint64) {
	t.Helper()
	for i, n := range want {
		if got := load(a, w(uint64(i+1))); got != w(n) {
			t.Errorf("slot %d has %v, want %d", i+1, got, n)
		}
	}
}

func TestP141List(t *testing.T) {
	one, other := full(at(1)), api.Account{Address: at(1), Nonce: 9, Storage: slots(5, 5)}
	for _, row := range []struct{ l, want []api.Account }{
		{nil, nil},
		{[]api.Account{}, nil},
		{[]api.Account{one}, []api.Account{one}},
		{[]api.Account{one, other}, []api.Account{one}},
		{[]api.Account{other, one}, []api.Account{other}},
		{[]api.Account{other, one, one, full(at(2)), other}, []api.Account{other, full(at(2))}},
		{[]api.Account{{Address: at(1)}, one}, nil},
		{[]api.Account{{Address: at(2), Code: []byte{}, Storage: []api.Slot{}}, one, {Address: at(1)}}, []api.Account{one}},
		{[]api.Account{{}, {Nonce: 4}}, nil},
		{[]api.Account{{Nonce: 4}, {}}, []api.Account{{Nonce: 4}}},
	} {
		world := state.List(row.l)
		want := map[api.Address]api.Account{}
		for _, x := range row.want {
			want[x.Address] = x
		}
		for _, a := range append(pool(), at(1), at(2), at(3)) {
			account := want[a]
			account.Address = a
			if x, known := world.Account(a); !known || !same(x, account) {
				t.Errorf("List(%v): of %v %v, %v", row.l, a, x, known)
			}
			s := state.New(world)
			if n := s.Nonce(a); n != account.Nonce {
				t.Errorf("List(%v): Nonce(%v): %d", row.l, a, n)
			}
			if _, missing := s.Missing(); missing {
				t.Errorf("List(%v): %v is missing", row.l, a)
			}
		}
	}
}

func TestP141NoWorld(t *testing.T) {
	s := state.New(nil)
	if got, want := asked(s), asked(newModel(emptyWorld())); got != want {
		t.Errorf("a state on nil is\n%s\nwant\n%s", got, want)
	}
	s.SetNonce(at(2), 1)
	s.Set(at(1), w(1), w(2))
	s.Set(at(3), w(1), w(0))
	changes(t, s, api.Account{Address: at(1), Storage: slots(1, 2)}, api.Account{Address: at(2), Nonce: 1})
	if a, missing := s.Missing(); missing || a != (api.Address{}) {
		t.Errorf("%v is missing", a)
	}
}

// emptyWorld is one in which all is known to be empty.
func emptyWorld() world {
	e := world{}
	for _, a := range pool() {
		e[a] = answered{api.Account{Address: a}, true}
	}
	return e
}

// rich is a world that knows the account 1 only, and doesn't know others that
// have something.
func rich() world {
	r := world{}
	for _, a := range append(pool(), at(3)) {
		r[a] = answered{full(a), a == at(1)}
	}
	return r
}

// telling are all calls that are told an address, each by its name.
func telling(a api.Address) []step {
	return []step{
		{"Empty", none(func(s calls) { s.Empty(a) })},
		{"Nonce", none(func(s calls) { s.Nonce(a) })},
		{"Balance", none(func(s calls) { s.Balance(a) })},
		{"Code", none(func(s calls) { s.Code(a) })},
		{"SetNonce", none(func(s calls) { s.SetNonce(a, 1) })},
		{"SetNonce 0", none(func(s calls) { s.SetNonce(a, 0) })},
		{"SetBalance", none(func(s calls) { s.SetBalance(a, w(1)) })},
		{"SetCode", none(func(s calls) { s.SetCode(a, []byte{1}) })},
		{"SetCode nil", none(func(s calls) { s.SetCode(a, nil) })},
		{"Make", none(func(s calls) { s.Make(a) })},
		{"Load", none(func(s calls) { s.Load(a, w(1)) })},
		{"First", none(func(s calls) { s.First(a, w(1)) })},
		{"Set", none(func(s calls) { s.Set(a, w(1), w(1)) })},
		{"Set 0", none(func(s calls) { s.Set(a, w(1), w(0)) })},
		{"Touch", none(func(s calls) { s.Touch(a) })},
		{"TouchSlot", none(func(s calls) { s.TouchSlot(a, w(1)) })},
		{"Destroy", none(func(s calls) { s.Destroy(a) })},
		{"Destroyed", none(func(s calls) { s.Destroyed(a) })},
	}
}

// missing tells whether this address is noted, or none, if it is nil.
func missing(t *testing.T, name string, s *state.State, want *api.Address) {
	t.Helper()
	a, ok := s.Missing()
	if ok != (want != nil) || ok && a != *want || !ok && a != (api.Address{}) {
		t.Errorf("behind %s: Missing: %v, %v, want %v", name, a, ok, want)
	}
}

func TestP141Missing(t *testing.T) {
	two, three := at(2), at(3)
	for i, x := range telling(two) {
		s := state.New(rich())
		missing(t, "nothing", s, nil)
		telling(at(1))[i].call(s)
		missing(t, x.name+" of 1", s, nil)
		mark := s.Mark()
		x.call(s)
		missing(t, x.name, s, &two)
		for _, y := range telling(three) {
			y.call(s)
		}
		for _, y := range telling(at(1)) {
			y.call(s)
		}
		missing(t, x.name+" and all others", s, &two)
		s.Back(mark)
		missing(t, x.name+", and back", s, &two)
		s.Touch(three)
		missing(t, x.name+", back, and another one", s, &two)
		s.Back(0)
		missing(t, x.name+", and all back", s, &two)
	}
}

// What isn't told an address notes none, though it tells of one.
func TestP141NotMissing(t *testing.T) {
	s := state.New(rich())
	s.Add(1)
	s.Log(api.Log{Address: at(2)})
	s.Back(s.Mark())
	s.Back(0)
	s.Log(api.Log{Address: at(2)})
	s.Refund()
	s.Logs()
	s.Changes()
	missing(t, "calls of no address", s, nil)
	s = state.New(emptyWorld())
	for _, a := range pool() {
		for _, x := range telling(a) {
			x.call(s)
		}
	}
	missing(t, "calls on a world that knows all", s, nil)
	s = state.New(world{})
	s.Touch(api.Address{})
	missing(t, "Touch of the address 0", s, &api.Address{})
}

// An account that isn't known is empty, whatever the world says beside false.
func TestP141MissingIsEmpty(t *testing.T) {
	s := state.New(rich())
	two := at(2)
	if !s.Empty(two) || s.Nonce(two) != 0 || s.Balance(two) != w(0) || len(s.Code(two)) != 0 || s.Destroyed(two) {
		t.Error("an account that isn't known isn't empty")
	}
	stored(t, s.Load, two, 0, 0)
	stored(t, s.First, two, 0, 0)
	if s.Load(two, w(0)) != w(0) || s.First(two, w(0)) != w(0) {
		t.Error("the slot 0 of an account that isn't known has something")
	}
	changes(t, s)
	s.Set(two, w(1), w(4))
	s.Make(at(3))
	changes(t, s, api.Account{Address: two, Storage: slots(1, 4)})
	s.Set(two, w(1), w(0))
	changes(t, s)
}

// A world may say nothing of whose account it answers.
func TestP141WorldWithoutAddresses(t *testing.T) {
	s := state.New(world{at(1): {api.Account{Nonce: 3}, true}, at(2): {api.Account{Address: at(9), Nonce: 4}, true}})
	changes(t, s)
	s.SetNonce(at(1), 5)
	s.SetNonce(at(2), 5)
	changes(t, s, api.Account{Address: at(1), Nonce: 5}, api.Account{Address: at(2), Nonce: 5})
	s.SetNonce(at(1), 3)
	s.SetNonce(at(2), 4)
	changes(t, s)
}

func TestP141Empty(t *testing.T) {
	for _, row := range []struct {
		x    api.Account
		want bool
	}{
		{api.Account{}, true},
		{api.Account{Code: []byte{}, Storage: []api.Slot{}}, true},
		{api.Account{Nonce: 1}, false},
		{api.Account{Nonce: 1 << 63}, false},
		{api.Account{Balance: api.Word{1}}, false},
		{api.Account{Balance: api.Word{0, 1}}, false},
		{api.Account{Balance: api.Word{0, 0, 1}}, false},
		{api.Account{Balance: api.Word{0, 0, 0, 1 << 63}}, false},
		{api.Account{Code: []byte{0}}, false},
		{api.Account{Storage: slots(1, 1)}, true},
	} {
		row.x.Address = at(1)
		s := state.New(state.List([]api.Account{row.x}))
		if got := s.Empty(at(1)); got != row.want {
			t.Errorf("Empty of %v in the world: %v", row.x, got)
		}
		s = state.New(nil)
		s.SetNonce(at(1), row.x.Nonce)
		s.SetBalance(at(1), row.x.Balance)
		s.SetCode(at(1), row.x.Code)
		for _, slot := range row.x.Storage {
			s.Set(at(1), slot.Key, slot.Value)
		}
		if got := s.Empty(at(1)); got != row.want {
			t.Errorf("Empty of %v that was set: %v", row.x, got)
		}
		s.SetNonce(at(1), 0)
		s.SetBalance(at(1), w(0))
		s.SetCode(at(1), nil)
		s.Destroy(at(1))
		if !s.Empty(at(1)) || !s.Empty(at(2)) {
			t.Errorf("Empty of what has nothing any more: false")
		}
	}
}

// What is set to what was there, to nothing, and to something again.
func TestP141Set(t *testing.T) {
	s := state.New(few())
	s.SetNonce(at(1), 3)
	s.SetBalance(at(1), w(5))
	s.SetCode(at(1), []byte{6})
	s.Set(at(1), w(1), w(7))
	s.Set(at(1), w(3), w(0))
	changes(t, s)
	s.SetNonce(at(1), 0)
	s.SetBalance(at(1), w(0))
	s.SetCode(at(1), nil)
	s.Set(at(1), w(1), w(0))
	if s.Nonce(at(1)) != 0 || s.Balance(at(1)) != w(0) || len(s.Code(at(1))) != 0 {
		t.Error("what was set to nothing has something")
	}
	stored(t, s.Load, at(1), 0, 8, 0)
	stored(t, s.First, at(1), 7, 8, 0)
	changes(t, s, api.Account{Address: at(1), Storage: slots(2, 8)})
	s.Set(at(1), w(2), w(0))
	changes(t, s, api.Account{Address: at(1)})
	s.SetNonce(at(1), math.MaxUint64)
	s.SetBalance(at(1), api.Word{1, 2, 3, 4})
	s.SetCode(at(1), []byte{7, 0, 8})
	s.Set(at(1), w(3), w(9))
	s.Set(at(1), w(1), w(1))
	if s.Nonce(at(1)) != math.MaxUint64 || s.Balance(at(1)) != (api.Word{1, 2, 3, 4}) || !slices.Equal(s.Code(at(1)), []byte{7, 0, 8}) {
		t.Error("what was set isn't there")
	}
	stored(t, s.Load, at(1), 1, 0, 9)
	stored(t, s.First, at(1), 7, 8, 0)
	changes(t, s, api.Account{Address: at(1), Nonce: math.MaxUint64, Balance: api.Word{1, 2, 3, 4}, Code: []byte{7, 0, 8}, Storage: slots(1, 1, 3, 9)})
	s.SetNonce(at(1), 3)
	s.SetBalance(at(1), w(5))
	s.SetCode(at(1), []byte{6})
	s.Set(at(1), w(3), w(0))
	s.Set(at(1), w(2), w(8))
	s.Set(at(1), w(1), w(7))
	changes(t, s)
}

// Each part by itself makes an account another one than the world's.
func TestP141ChangesOfEachPart(t *testing.T) {
	for _, set := range []func(s *state.State, x *api.Account){
		func(s *state.State, x *api.Account) { x.Nonce = 4; s.SetNonce(at(1), 4) },
		func(s *state.State, x *api.Account) { x.Balance[3] = 1; s.SetBalance(at(1), x.Balance) },
		func(s *state.State, x *api.Account) { x.Code = []byte{7}; s.SetCode(at(1), x.Code) },
		func(s *state.State, x *api.Account) { x.Code = []byte{6, 0}; s.SetCode(at(1), x.Code) },
		func(s *state.State, x *api.Account) { x.Code = nil; s.SetCode(at(1), []byte{}) },
		func(s *state.State, x *api.Account) { x.Storage = slots(1, 9, 2, 8); s.Set(at(1), w(1), w(9)) },
		func(s *state.State, x *api.Account) { x.Storage = slots(1, 7); s.Set(at(1), w(2), w(0)) },
		func(s *state.State, x *api.Account) { x.Storage = slots(0, 1, 1, 7, 2, 8); s.Set(at(1), w(0), w(1)) },
		func(s *state.State, x *api.Account) { x.Storage = nil; s.Make(at(1)) },
	} {
		s := state.New(few())
		x, _ := few().Account(at(1))
		set(s, &x)
		changes(t, s, x)
		s.Back(0)
		changes(t, s)
	}
}

func TestP141Make(t *testing.T) {
	s := state.New(few())
	s.Set(at(1), w(2), w(9))
	s.Set(at(1), w(3), w(9))
	s.Make(at(1))
	stored(t, s.Load, at(1), 0, 0, 0)
	stored(t, s.First, at(1), 0, 0, 0)
	fresh := api.Account{Address: at(1), Nonce: 3, Balance: w(5), Code: []byte{6}}
	changes(t, s, fresh)
	s.Set(at(1), w(1), w(4))
	s.Set(at(1), w(3), w(5))
	stored(t, s.Load, at(1), 4, 0, 5)
	stored(t, s.First, at(1), 0, 0, 0)
	fresh.Storage = slots(1, 4, 3, 5)
	changes(t, s, fresh)
	s.Make(at(1))
	stored(t, s.Load, at(1), 0, 0, 0)
	s.Set(at(1), w(2), w(8))
	s.Set(at(1), w(1), w(7))
	changes(t, s) // stored anew, all is as in the world
	stored(t, s.First, at(1), 0, 0, 0)
	s.Set(at(1), w(1), w(0))
	fresh.Storage = slots(2, 8)
	changes(t, s, fresh)
}

func TestP141MakeOfNone(t *testing.T) {
	s := state.New(few())
	s.Make(at(2))
	s.Make(at(3))
	changes(t, s)
	s.Set(at(3), w(2), w(1))
	s.SetNonce(at(2), 1)
	changes(t, s, api.Account{Address: at(2), Nonce: 1}, api.Account{Address: at(3), Storage: slots(2, 1)})
	s.Make(at(3))
	changes(t, s, api.Account{Address: at(2), Nonce: 1})
	stored(t, s.Load, at(1), 7, 8)
}

// What is warm, logged, refunded or destroyed stays so when an account is made.
func TestP141MakeStoresAlone(t *testing.T) {
	s := state.New(few())
	s.Touch(at(1))
	s.TouchSlot(at(1), w(1))
	s.Destroy(at(1))
	s.Make(at(1))
	if s.Touch(at(1)) || s.TouchSlot(at(1), w(1)) || !s.Destroyed(at(1)) || s.Nonce(at(1)) != 3 || s.Balance(at(1)) != w(5) || len(s.Code(at(1))) != 1 {
		t.Error("Make has done more than to empty the storage")
	}
	changes(t, s, api.Account{Address: at(1)})
}

func TestP141First(t *testing.T) {
	s := state.New(few())
	for _, n := range []uint64{1, 2, 0, 7, 0, 3} {
		s.Set(at(1), w(1), w(n))
		s.Set(at(1), w(5), w(n))
		s.Set(at(2), w(1), w(n))
		stored(t, s.Load, at(1), n, 8, 0, 0, n)
		stored(t, s.First, at(1), 7, 8, 0, 0, 0)
		stored(t, s.Load, at(2), n, 0)
		stored(t, s.First, at(2), 0, 0)
	}
}

func TestP141Warm(t *testing.T) {
	s := state.New(few())
	cold := func(name string, got, want bool) {
		t.Helper()
		if got != want {
			t.Errorf("%s: %v", name, got)
		}
	}
	cold("TouchSlot(1, 1)", s.TouchSlot(at(1), w(1)), true)
	cold("TouchSlot(1, 1) again", s.TouchSlot(at(1), w(1)), false)
	cold("TouchSlot(1, 2)", s.TouchSlot(at(1), w(2)), true)
	cold("TouchSlot(2, 1)", s.TouchSlot(at(2), w(1)), true)
	cold("TouchSlot(2, 1) again", s.TouchSlot(at(2), w(1)), false)
	cold("TouchSlot(1, 2^192)", s.TouchSlot(at(1), api.Word{0, 0, 0, 1}), true)
	cold("Touch(1)", s.Touch(at(1)), true)
	cold("Touch(1) again", s.Touch(at(1)), false)
	cold("Touch(2)", s.Touch(at(2)), true)
	cold("Touch(3)", s.Touch(at(3)), true)
	cold("TouchSlot(3, 1)", s.TouchSlot(at(3), w(1)), true)
	s.Set(at(1), w(4), w(1))
	s.Load(at(1), w(4))
	cold("TouchSlot(1, 4)", s.TouchSlot(at(1), w(4)), true)
	s.SetNonce(at(4), 1)
	cold("Touch(4)", s.Touch(at(4)), true)
	changes(t, s, api.Account{Address: at(1), Nonce: 3, Balance: w(5), Code: []byte{6}, Storage: slots(1, 7, 2, 8, 4, 1)}, api.Account{Address: at(4), Nonce: 1})
}

func TestP141Refund(t *testing.T) {
	for _, row := range []struct {
		l    []int64
		want int64
	}{
		{nil, 0},
		{[]int64{5}, 5},
		{[]int64{-5}, -5},
		{[]int64{5, -7, 0, 1}, -1},
		{[]int64{math.MaxInt64}, math.MaxInt64},
		{[]int64{math.MaxInt64, 1}, math.MinInt64},
		{[]int64{math.MinInt64}, math.MinInt64},
		{[]int64{math.MinInt64, -1}, math.MaxInt64},
		{[]int64{math.MinInt64, math.MinInt64}, 0},
		{[]int64{math.MaxInt64, math.MaxInt64, 3}, 1},
	} {
		s := state.New(few())
		marks, sums := []int{}, []int64{}
		for _, n := range row.l {
			marks, sums = append(marks, s.Mark()), append(sums, s.Refund())
			s.Add(n)
		}
		if got := s.Refund(); got != row.want {
			t.Errorf("Refund behind %v: %d, want %d", row.l, got, row.want)
		}
		for i, mark := range slices.Backward(marks) {
			s.Back(mark)
			if got := s.Refund(); got != sums[i] {
				t.Errorf("Refund behind %v, back to %d: %d, want %d", row.l, i, got, sums[i])
			}
		}
	}
}

func TestP141Logs(t *testing.T) {
	s := state.New(few())
	if l := s.Logs(); len(l) != 0 {
		t.Errorf("Logs of none: %v", l)
	}
	want := []api.Log{
		{Address: at(2), Topics: []api.Word{w(3), {1, 2, 3, 4}}, Data: []byte{5, 6}},
		{},
		{Address: at(1), Data: []byte{0}},
		{Address: at(1), Topics: []api.Word{w(0)}},
		{Address: at(2), Topics: []api.Word{w(3), {1, 2, 3, 4}}, Data: []byte{5, 6}},
	}
	var marks []int
	for i, l := range want {
		marks = append(marks, s.Mark())
		s.Log(l)
		if got := s.Logs(); fmt.Sprint(got) != fmt.Sprint(want[:i+1]) {
			t.Errorf("Logs behind %d: %v", i+1, got)
		}
	}
	s.Back(marks[2])
	s.Log(want[3])
	if got := s.Logs(); fmt.Sprint(got) != fmt.Sprint([]api.Log{want[0], want[1], want[3]}) {
		t.Errorf("Logs behind a mark: %v", got)
	}
	changes(t, s)
}

func TestP141Destroy(t *testing.T) {
	s := state.New(few())
	mark := s.Mark()
	s.Destroy(at(1))
	s.Destroy(at(1))
	if !s.Destroyed(at(1)) || s.Destroyed(at(2)) {
		t.Error("Destroyed")
	}
	// Until all is over, it is as it was.
	if s.Nonce(at(1)) != 3 || s.Balance(at(1)) != w(5) || len(s.Code(at(1))) != 1 || s.Empty(at(1)) {
		t.Error("a destroyed account has changed")
	}
	stored(t, s.Load, at(1), 7, 8)
	stored(t, s.First, at(1), 7, 8)
	changes(t, s, api.Account{Address: at(1)})
	s.SetNonce(at(1), 4)
	s.SetBalance(at(1), w(9))
	s.SetCode(at(1), []byte{1})
	s.Set(at(1), w(1), w(1))
	s.Touch(at(1))
	if s.Nonce(at(1)) != 4 || s.Balance(at(1)) != w(9) || s.Load(at(1), w(1)) != w(1) || !s.Destroyed(at(1)) {
		t.Error("behind Destroy nothing is set")
	}
	changes(t, s, api.Account{Address: at(1)})
	s.SetNonce(at(3), 1)
	s.Destroy(at(1))
	changes(t, s, api.Account{Address: at(1)}, api.Account{Address: at(3), Nonce: 1})
	s.Back(mark)
	if s.Destroyed(at(1)) {
		t.Error("back, it is still destroyed")
	}
	changes(t, s)
}

// A destroyed account that is empty in the world is as in the world.
func TestP141DestroyOfNone(t *testing.T) {
	s := state.New(few())
	s.Destroy(at(2))
	s.Destroy(at(3))
	s.SetNonce(at(3), 1)
	s.Make(at(4))
	s.SetNonce(at(4), 1)
	s.Set(at(4), w(1), w(1))
	s.Destroy(at(4))
	if !s.Destroyed(at(2)) || !s.Destroyed(at(3)) || !s.Destroyed(at(4)) {
		t.Error("Destroyed")
	}
	changes(t, s)
}

// An account with nothing but slots isn't as in the world without them.
func TestP141DestroyOfSlots(t *testing.T) {
	s := state.New(state.List([]api.Account{{Address: at(1), Storage: slots(1, 1)}}))
	s.Destroy(at(1))
	changes(t, s, api.Account{Address: at(1)})
}

func TestP141ChangesRise(t *testing.T) {
	r := rand.New(rand.NewPCG(14, 9))
	s := state.New(nil)
	for range 3000 {
		var a api.Address
		var key api.Word
		a[r.IntN(20)], a[r.IntN(20)] = byte(r.IntN(256)), byte(r.IntN(3))
		key[r.IntN(4)], key[r.IntN(4)] = r.Uint64N(3), r.Uint64()
		s.Set(a, key, w(r.Uint64N(3)))
		s.Set(at(1), key, w(r.Uint64N(3)))
	}
	l := s.Changes()
	if len(l) < 1000 {
		t.Errorf("only %d accounts", len(l))
	}
	for i, x := range l {
		if i > 0 && slices.Compare(l[i-1].Address[:], x.Address[:]) >= 0 {
			t.Errorf("%v ahead of %v", l[i-1].Address, x.Address)
		}
		if len(x.Storage) == 0 || x.Address == at(1) && len(x.Storage) < 1000 {
			t.Errorf("%v has %d slots", x.Address, len(x.Storage))
		}
		for j, slot := range x.Storage {
			if slot.Value == w(0) || j > 0 && number(x.Storage[j-1].Key).Cmp(number(slot.Key)) >= 0 {
				t.Errorf("%v has %v at %d", x.Address, slot, j)
			}
		}
	}
}

// What each call alone has done is undone, on worlds that have all of it
// already, or nothing.
func TestP142EachCall(t *testing.T) {
	doing := []step{
		{"SetNonce", none(func(s calls) { s.SetNonce(at(1), 9) })},
		{"SetNonce to 0", none(func(s calls) { s.SetNonce(at(1), 0) })},
		{"SetBalance", none(func(s calls) { s.SetBalance(at(1), api.Word{0, 0, 0, 9}) })},
		{"SetBalance to 0", none(func(s calls) { s.SetBalance(at(1), w(0)) })},
		{"SetCode", none(func(s calls) { s.SetCode(at(1), []byte{9, 9}) })},
		{"SetCode to nothing", none(func(s calls) { s.SetCode(at(1), nil) })},
		{"Set", none(func(s calls) { s.Set(at(1), w(1), w(99)) })},
		{"Set of another slot", none(func(s calls) { s.Set(at(1), keys()[4], w(99)) })},
		{"Set to 0", none(func(s calls) { s.Set(at(1), w(1), w(0)) })},
		{"a new account", none(func(s calls) { s.SetNonce(pool()[5], 1) })},
		{"Make", none(func(s calls) { s.Make(at(1)) })},
		{"Make of none", none(func(s calls) { s.Make(pool()[5]) })},
		{"Touch", none(func(s calls) { s.Touch(at(1)) })},
		{"TouchSlot", none(func(s calls) { s.TouchSlot(at(1), w(1)) })},
		{"Add", none(func(s calls) { s.Add(math.MinInt64) })},
		{"Log", none(func(s calls) { s.Log(log()) })},
		{"Destroy", none(func(s calls) { s.Destroy(at(1)) })},
	}
	one := emptyWorld()
	one[at(1)] = answered{full(at(1)), true}
	for _, world := range []world{one, emptyWorld()} {
		for _, ahead := range [][]step{nil, {doing[6], doing[4]}, {doing[10]}, {doing[10], doing[6]}, doing} {
			for _, x := range doing {
				row := slices.Clone(ahead)
				mark := play(world, row).Mark()
				before := told(world, row)
				row = append(row, x)
				behind := told(world, row)
				checkBack(t, world, row, mark, before)
				// Once more, and back again.
				row = append(row, back(mark), x)
				if got := told(world, row); got != behind {
					t.Errorf("%s once more is\n%s\nwant\n%s", x.name, got, behind)
				}
				checkBack(t, world, row, mark, before)
				checkBack(t, world, row, 0, told(world, nil))
			}
		}
	}
}

// checkBack tells whether, behind a row and back to a mark, all is as it was
// there, the mark too.
func checkBack(t *testing.T, w world, row []step, mark int, before string) {
	t.Helper()
	row = append(slices.Clone(row), back(mark))
	if got := told(w, row); got != before {
		t.Errorf("behind\n%s\nis told\n%s\nwant\n%s", names(row), got, before)
	}
	if got := play(w, row).Mark(); got != mark {
		t.Errorf("behind\n%s\nMark is %d", names(row), got)
	}
}

// A long run does again and again what is done already: it holds no more then.
func TestNothingNew(t *testing.T) {
	one := emptyWorld()
	one[at(1)] = answered{full(at(1)), true}
	row := []step{
		{"SetNonce", none(func(s calls) { s.SetNonce(at(1), 3) })},
		{"SetBalance", none(func(s calls) { s.SetBalance(at(1), api.Word{5, 0, 0, 1}) })},
		{"SetCode", none(func(s calls) { s.SetCode(at(1), []byte{1, 2, 255}) })},
		{"Set", none(func(s calls) { s.Set(at(1), w(0), w(4)) })},
		{"Touch", none(func(s calls) { s.Touch(at(1)) })},
		{"TouchSlot", none(func(s calls) { s.TouchSlot(at(1), w(1)) })},
		{"Add", none(func(s calls) { s.Add(0) })},
		{"Destroy", none(func(s calls) { s.Destroy(at(1)) })},
	}
	s := play(one, row)
	mark := s.Mark()
	for range 100 {
		for _, x := range row {
			x.call(s)
		}
	}
	if got := s.Mark(); got != mark {
		t.Errorf("Mark is %d, and was %d", got, mark)
	}
}

// Each of these does something: without it nothing would be told anew.
func TestP142EachCallIsTold(t *testing.T) {
	one := emptyWorld()
	one[at(1)] = answered{full(at(1)), true}
	for _, x := range []step{
		{"SetNonce", none(func(s calls) { s.SetNonce(at(1), 9) })},
		{"SetBalance", none(func(s calls) { s.SetBalance(at(1), w(9)) })},
		{"SetCode", none(func(s calls) { s.SetCode(at(1), nil) })},
		{"Set", none(func(s calls) { s.Set(at(1), w(1), w(99)) })},
		{"Make", none(func(s calls) { s.Make(at(1)) })},
		{"Touch", none(func(s calls) { s.Touch(at(1)) })},
		{"TouchSlot", none(func(s calls) { s.TouchSlot(at(1), w(1)) })},
		{"Add", none(func(s calls) { s.Add(1) })},
		{"Log", none(func(s calls) { s.Log(log()) })},
		{"Destroy", none(func(s calls) { s.Destroy(at(1)) })},
	} {
		s := play(one, []step{x})
		if told(one, []step{x}) == told(one, nil) || s.Mark() == play(one, nil).Mark() {
			t.Errorf("%s does nothing", x.name)
		}
	}
}

// A mark that isn't from 0 to Mark() is none.
func TestP142NoMark(t *testing.T) {
	r := rand.New(rand.NewPCG(14, 11))
	w := emptyWorld()
	var row []step
	for range 30 {
		row = append(row, drawn(r))
		s := play(w, row)
		before, mark := told(w, row), s.Mark()
		for _, none := range []int{-1, -2, mark + 1, mark + 2, 2*mark + 1, 1 << 32, -1 << 32, math.MinInt, math.MaxInt, mark} {
			checkBackNone(t, w, row, none, before)
			s.Back(none)
			if s.Mark() != mark {
				t.Fatalf("Back(%d) at %d: Mark is %d", none, mark, s.Mark())
			}
		}
	}
	s := state.New(few())
	for _, none := range []int{-1, 0, 1, math.MinInt, math.MaxInt} {
		s.Back(none)
		if s.Mark() != 0 {
			t.Errorf("Back(%d) where nothing was done: Mark is %d", none, s.Mark())
		}
	}
}

// checkBackNone tells whether going back to no mark does nothing.
func checkBackNone(t *testing.T, w world, row []step, mark int, before string) {
	t.Helper()
	row = append(slices.Clone(row), back(mark))
	if got := told(w, row); got != before {
		t.Fatalf("behind\n%s\nis told\n%s\nwant\n%s", names(row), got, before)
	}
}

// Marks ahead of the one that is gone back to stay good, whatever is done then.
func TestP142MarksStay(t *testing.T) {
	s := state.New(few())
	var marks []int
	for i := range uint64(6) {
		marks = append(marks, s.Mark())
		s.Set(at(1), w(1), w(100+i))
		s.Add(int64(i))
	}
	for i := range uint64(6) {
		s.Back(marks[5-i])
		want := uint64(7)
		if i < 5 {
			want = 104 - i
		}
		for range 3 {
			if got := s.Load(at(1), w(1)); got != w(want) {
				t.Errorf("back to %d: %v, want %d", 5-i, got, want)
			}
			s.Set(at(1), w(1), w(55))
			s.SetCode(at(1), []byte{5})
			s.Log(log())
			s.Back(marks[5-i])
		}
		s.SetNonce(at(2), 7+i) // stays until the next mark
	}
	s.Back(0)
	changes(t, s)
	if s.Refund() != 0 || len(s.Logs()) != 0 || s.Mark() != 0 {
		t.Error("all back: something is left")
	}
}

// Two states on one world know nothing of each other.
func TestP143TwoStates(t *testing.T) {
	for i := range 40 {
		r := rand.New(rand.NewPCG(18, uint64(i)))
		var world state.World = drawnWorld(r)
		if i%2 == 0 {
			world = few()
		}
		rows, states := [2][]step{}, [2]*state.State{state.New(world), state.New(world)}
		for range 80 {
			which := r.IntN(2)
			x := drawn(r)
			if r.IntN(10) == 0 {
				x = back(r.IntN(states[which].Mark() + 1))
			}
			rows[which] = append(rows[which], x)
			x.call(states[which])
		}
		for which, s := range states {
			if got, want := asked(s)+touched(s), asked(play(world, rows[which])); got[:len(want)] != want {
				t.Errorf("beside another one, behind\n%s\nis told\n%s\nwant\n%s", names(rows[which]), got, want)
			}
		}
	}
}

// A list's world answers as before, behind all that was done on it.
func TestP143ListStays(t *testing.T) {
	r := rand.New(rand.NewPCG(14, 12))
	world := state.List(accounts())
	before := worldTold(world)
	for range 30 {
		s := state.New(world)
		for range 80 {
			x := drawn(r)
			if r.IntN(10) == 0 {
				x = back(r.IntN(s.Mark() + 1))
			}
			x.call(s)
		}
		wearAll(s)
		if got := worldTold(world); got != before {
			t.Fatalf("the world was\n%s\nand is\n%s", before, got)
		}
	}
}

// A world's slots may be in no order, and 0: an account's first slot of a key
// is what it has stored.
func TestWorldOfNoOrder(t *testing.T) {
	l := []api.Slot{{Key: w(3), Value: w(1)}, {Key: w(1), Value: w(2)}, {Key: w(3), Value: w(4)}, {Key: w(2)}, {Key: api.Word{0, 1}, Value: w(5)}, {Key: w(4), Value: w(6)}}
	s := state.New(state.List([]api.Account{{Address: at(1), Storage: l}}))
	stored(t, s.Load, at(1), 2, 0, 1, 6)
	stored(t, s.First, at(1), 2, 0, 1, 6)
	changes(t, s)
	s.Set(at(1), w(2), w(7))
	changes(t, s, api.Account{Address: at(1), Storage: []api.Slot{{Key: w(1), Value: w(2)}, {Key: w(2), Value: w(7)}, {Key: w(3), Value: w(1)}, {Key: w(4), Value: w(6)}, {Key: api.Word{0, 1}, Value: w(5)}}})
	s.Set(at(1), w(2), w(0))
	changes(t, s)
	s.SetNonce(at(1), 1)
	changes(t, s, api.Account{Address: at(1), Nonce: 1, Storage: []api.Slot{{Key: w(1), Value: w(2)}, {Key: w(3), Value: w(1)}, {Key: w(4), Value: w(6)}, {Key: api.Word{0, 1}, Value: w(5)}}})
}

// broken is a world whose nil pointer panics.
type broken struct{ x api.Account }

func (b *broken) Account(a api.Address) (api.Account, bool) { return b.x, true }

func TestWorldPanics(t *testing.T) {
	s := state.New((*broken)(nil))
	if !s.Empty(at(2)) || s.Load(at(1), w(1)) != w(0) {
		t.Error("an account of a world that panics isn't empty")
	}
	two := at(2)
	missing(t, "a panic", s, &two)
	changes(t, s)
}

func TestManySlots(t *testing.T) {
	const many = 1 << 17
	x := api.Account{Address: at(1)}
	for i := range uint64(many) {
		x.Storage = append(x.Storage, api.Slot{Key: w(2 * i), Value: w(i + 1)})
	}
	s := state.New(state.List([]api.Account{x}))
	s.Load(at(1), w(0))
	mark := s.Mark()
	// Were a slot looked for from the first one on, this would take minutes.
	for i := range uint64(many) {
		if got := s.Load(at(1), w(2*i)); got != w(i+1) {
			t.Fatalf("slot %d: %v", 2*i, got)
		}
		s.Set(at(1), w(2*i), w(0))
		s.Set(at(1), w(2*i+1), w(5))
		s.Make(at(2))
		s.Set(at(2), w(i), w(5))
	}
	l := s.Changes()
	if len(l) != 2 || len(l[0].Storage) != many || l[0].Storage[many-1].Key != w(2*many-1) || len(l[1].Storage) != 1 {
		t.Fatal("the slots that were set aren't there")
	}
	s.Back(mark)
	changes(t, s)
}

func TestNil(t *testing.T) {
	var s *state.State
	for range 2 {
		for _, a := range pool() {
			s.SetNonce(a, 1)
			s.SetBalance(a, w(1))
			s.SetCode(a, []byte{1})
			s.Make(a)
			s.Destroy(a)
			if s.Empty(a) || s.Nonce(a) != 0 || s.Balance(a) != w(0) || len(s.Code(a)) != 0 || s.Touch(a) || s.Destroyed(a) {
				t.Errorf("a nil state says something of %v", a)
			}
			for _, key := range keys() {
				s.Set(a, key, w(1))
				if s.Load(a, key) != w(0) || s.First(a, key) != w(0) || s.TouchSlot(a, key) {
					t.Errorf("a nil state says something of %v's slot %v", a, key)
				}
			}
		}
		s.Add(5)
		s.Log(log())
		if a, ok := s.Missing(); ok || a != (api.Address{}) {
			t.Errorf("Missing: %v, %v", a, ok)
		}
		if s.Refund() != 0 || len(s.Logs()) != 0 || s.Mark() != 0 || len(s.Changes()) != 0 {
			t.Error("a nil state has something")
		}
		for _, mark := range []int{0, 1, -1, math.MinInt, math.MaxInt} {
			s.Back(mark)
		}
	}
}

func TestExamples(t *testing.T) {
	s := state.New(state.List(nil))
	s.Set(at(1), w(1), w(5))
	mark := s.Mark()
	s.Set(at(1), w(1), w(7))
	s.Back(mark)
	if got := s.Load(at(1), w(1)); got != w(5) {
		t.Errorf("Load: %v", got)
	}
}
