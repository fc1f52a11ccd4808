package fork_test

import (
	"math"
	"math/rand/v2"
	"testing"

	"smithy/api"
	"smithy/fork"
	"smithy/state"
	"smithy/store"
)

// filled is a cache that knows some accounts.
func filled(l ...api.Account) *fork.Cache {
	c := fork.New()
	for _, x := range l {
		c.Want(x.Address)
		c.Fill(x)
	}
	return c
}

// answers tells whether a world answers an account, asked twice.
func answers(t *testing.T, w state.World, a api.Address, want api.Account, known bool) {
	t.Helper()
	for range 2 {
		if x, ok := w.Account(a); ok != known || !same(x, want) {
			t.Fatalf("Account(%x): %v, %v, want %v, %v", a, x, ok, want, known)
		}
	}
}

// unknown tells whether a world doesn't know an account.
func unknown(t *testing.T, w state.World, a api.Address) {
	t.Helper()
	answers(t, w, a, api.Account{Address: a}, false)
}

func TestP153Over(t *testing.T) {
	local := api.Account{Address: at(1), Nonce: 1, Balance: api.Word{9}, Code: []byte{1, 2}, Storage: []api.Slot{slot(1, 2)}}
	remote := api.Account{Address: at(1), Nonce: 7, Balance: api.Word{5}, Code: []byte{3}, Storage: []api.Slot{slot(1, 7), slot(2, 8)}}
	far := api.Account{Address: at(2), Nonce: 3, Code: []byte{4}, Storage: []api.Slot{slot(5, 6)}}
	s, c := store.New(), filled(remote, far, api.Account{Address: at(3)})
	c.Want(at(4))
	one, _ := s.Commit(0, []api.Account{local})
	two, _ := s.Commit(one, []api.Account{rich(at(5), 1)})
	empty, _ := s.Commit(two, []api.Account{{Address: at(1)}, {Address: at(6)}})
	beside, _ := s.Commit(one, []api.Account{rich(at(2), 4), rich(at(4), 8)})
	for _, row := range []struct {
		v, n  int
		want  api.Account
		known bool
	}{
		{0, 1, remote, true},
		{one, 1, local, true},
		{two, 1, local, true},                         // its parent has it
		{empty, 1, api.Account{Address: at(1)}, true}, // an empty one is an account that was set
		{beside, 1, local, true},                      // its parent has it
		{0, 2, far, true},                             // only the cache knows it
		{two, 2, far, true},
		{empty, 2, far, true},
		{beside, 2, rich(at(2), 4), true},              // nothing of the cache's is left in it
		{empty, 3, api.Account{Address: at(3)}, true},  // an empty one that is known
		{empty, 4, api.Account{Address: at(4)}, false}, // it is being fetched
		{beside, 4, rich(at(4), 8), true},              // it is being fetched, too
		{one, 5, api.Account{Address: at(5)}, false},   // set only below
		{two, 5, rich(at(5), 1), true},
		{beside, 5, api.Account{Address: at(5)}, false}, // set only beside
		{empty, 6, api.Account{Address: at(6)}, true},   // an empty one that the cache doesn't know
		{two, 6, api.Account{Address: at(6)}, false},
		{two, 7, api.Account{Address: at(7)}, false}, // neither has it
		{0, 0, api.Account{}, false},
	} {
		answers(t, fork.Over(s, row.v, c), at(row.n), row.want, row.known)
	}
	if got := c.Want(at(7)); got != begun {
		t.Errorf("to be asked for in a world began a fetch: Want: %d", got)
	}
}

// Of a version that isn't there, the world is the cache's alone.
func TestP153NoVersion(t *testing.T) {
	s, c := store.New(), filled(rich(at(1), 5))
	s.Commit(0, []api.Account{rich(at(1), 9), rich(at(2), 9)})
	for _, v := range []int{2, 3, -1, -2, 1 << 20, 1 << 32, 1<<32 + 1, -1 << 32, math.MinInt, math.MaxInt} {
		answers(t, fork.Over(s, v, c), at(1), rich(at(1), 5), true)
		unknown(t, fork.Over(s, v, c), at(2))
	}
}

func TestP153Nil(t *testing.T) {
	s, c := store.New(), filled(rich(at(1), 5), rich(at(2), 5))
	one, _ := s.Commit(0, []api.Account{rich(at(1), 9), {Address: at(4)}})
	for _, v := range []int{0, one, 2, -1, math.MinInt, math.MaxInt} {
		answers(t, fork.Over(nil, v, c), at(1), rich(at(1), 5), true)
		answers(t, fork.Over(nil, v, c), at(2), rich(at(2), 5), true)
		for n := range 5 {
			unknown(t, fork.Over(nil, v, nil), at(n))
		}
		unknown(t, fork.Over(nil, v, c), at(3))
		unknown(t, fork.Over(s, v, nil), at(2))
	}
	answers(t, fork.Over(s, one, nil), at(1), rich(at(1), 9), true)
	answers(t, fork.Over(s, one, nil), at(4), api.Account{Address: at(4)}, true)
	unknown(t, fork.Over(s, 0, nil), at(1))
	unknown(t, fork.Over(s, 7, nil), at(1))
}

// A world stands on its cache and its store: what they come to know later, it
// answers.
func TestP153Later(t *testing.T) {
	s, c := store.New(), fork.New()
	zero, one := fork.Over(s, 0, c), fork.Over(s, 1, c)
	unknown(t, zero, at(1))
	c.Want(at(1))
	unknown(t, zero, at(1))
	c.Fill(rich(at(1), 5))
	answers(t, zero, at(1), rich(at(1), 5), true)
	answers(t, one, at(1), rich(at(1), 5), true)
	s.Commit(0, []api.Account{rich(at(1), 9)})
	answers(t, zero, at(1), rich(at(1), 5), true)
	answers(t, one, at(1), rich(at(1), 9), true)
}

// A state on such a world misses what neither the version nor the cache has.
func TestP153State(t *testing.T) {
	s, c := store.New(), filled(rich(at(1), 5), rich(at(2), 6))
	one, _ := s.Commit(0, []api.Account{rich(at(1), 9), {Address: at(3)}})
	w := fork.Over(s, one, c)
	running := state.New(w)
	if running.Balance(at(1)) != (api.Word{9}) || running.Balance(at(2)) != (api.Word{6}) || !running.Empty(at(3)) {
		t.Error("a state isn't as its world")
	}
	if a, ok := running.Missing(); ok {
		t.Errorf("missing: %x", a)
	}
	running.SetBalance(at(2), api.Word{7})
	running.Touch(at(4))
	if a, ok := running.Missing(); !ok || a != at(4) {
		t.Errorf("Missing: %x, %v", a, ok)
	}
	c.Want(at(4))
	c.Fill(rich(at(4), 8))
	running = state.New(w)
	if running.Balance(at(4)) != (api.Word{8}) || running.Balance(at(2)) != (api.Word{6}) {
		t.Error("behind Fill, a state isn't as its world")
	}
	if a, ok := running.Missing(); ok {
		t.Errorf("behind Fill, missing: %x", a)
	}
}

// versions are those of a store's model: all accounts that were set in each, or
// above it.
type versions []map[api.Address]api.Account

// commit commits drawn accounts on a drawn version of both.
func (m *versions) commit(r *rand.Rand, s *store.Store) {
	parent := r.IntN(len(*m))
	accounts := map[api.Address]api.Account{}
	for a, x := range (*m)[parent] {
		accounts[a] = x
	}
	var l []api.Account
	for range r.IntN(3) {
		x := drawn(r, told()[r.IntN(len(told()))])
		l = append(l, x)
		accounts[x.Address] = x
	}
	s.Commit(parent, l)
	*m = append(*m, accounts)
}

// overModel is what a world over a version answers.
func overModel(m versions, v int, c *model, a api.Address) (api.Account, bool) {
	if v >= 0 && v < len(m) {
		if x, ok := m[v][a]; ok {
			return x, true
		}
	}
	return c.account(a)
}

// Versions and accounts that are fetched, one between the other, and worlds
// that were made ahead of them and behind.
func TestP153Rows(t *testing.T) {
	r := rand.New(rand.NewPCG(15, 8))
	for range 12 {
		s, m, p := store.New(), versions{{}}, newPair(t)
		var worlds []state.World
		for range 40 {
			switch a := told()[r.IntN(len(told()))]; r.IntN(4) {
			case 0:
				m.commit(r, s)
			case 1:
				p.want(a)
			case 2:
				p.fill(drawn(r, a))
			case 3:
				p.fail(a)
			}
			worlds = append(worlds, fork.Over(s, len(worlds)-1, p.c))
			for i, w := range worlds {
				for _, a := range pool() {
					want, known := overModel(m, i-1, p.m, a)
					answers(t, w, a, want, known)
				}
			}
			p.checkLists()
		}
	}
}
