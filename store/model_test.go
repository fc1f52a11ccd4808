package store_test

import (
	"bytes"
	"fmt"
	"math"
	"math/big"
	"math/rand/v2"
	"slices"
	"testing"

	"smithy/api"
	"smithy/store"
)

const most = 1 << 20 // versions

// at is the address of a small number.
func at(n int) api.Address { return api.Address{18: byte(n >> 8), 19: byte(n)} }

// rich is an account that has no more than an address and a balance.
func rich(a api.Address, n uint64) api.Account {
	return api.Account{Address: a, Balance: api.Word{n}}
}

// number is a word's number, part by part.
func number(w api.Word) *big.Int {
	n := new(big.Int)
	for i := 3; i >= 0; i-- {
		n.Lsh(n, 64).Or(n, new(big.Int).SetUint64(w[i]))
	}
	return n
}

// whole is an account that shares nothing with another one.
func whole(x api.Account) api.Account {
	x.Code = slices.Clone(x.Code)
	x.Storage = slices.Clone(x.Storage)
	return x
}

// wholes are whole accounts.
func wholes(l []api.Account) []api.Account {
	var copies []api.Account
	for _, x := range l {
		copies = append(copies, whole(x))
	}
	return copies
}

// same tells whether two accounts are the same; a list of nothing may be nil.
func same(x, y api.Account) bool {
	return x.Address == y.Address && x.Nonce == y.Nonce && x.Balance == y.Balance &&
		bytes.Equal(x.Code, y.Code) && slices.Equal(x.Storage, y.Storage)
}

// modelRight is what the chapter's section 'Words' says of a storage, all
// pairs of slots held against each other.
func modelRight(x api.Account) bool {
	for i, one := range x.Storage {
		if number(one.Value).Sign() == 0 {
			return false
		}
		for _, other := range x.Storage[i+1:] {
			if number(one.Key).Cmp(number(other.Key)) >= 0 {
				return false
			}
		}
	}
	return true
}

// modelEmpty is what that section says of an empty account.
func modelEmpty(x api.Account) bool {
	return same(x, api.Account{Address: x.Address})
}

// model is a store that keeps all accounts of each version, whole.
type model struct {
	parents  []int
	versions []map[api.Address]api.Account
}

func newModel() *model {
	return &model{parents: []int{-1}, versions: []map[api.Address]api.Account{{}}}
}

func (m *model) has(v int) bool {
	for i := range m.versions {
		if i == v {
			return true
		}
	}
	return false
}

func (m *model) commit(parent int, l []api.Account) (int, api.Errno) {
	if !m.has(parent) {
		return 0, 12
	}
	for _, x := range l {
		if !modelRight(x) {
			return 0, 1
		}
	}
	accounts := map[api.Address]api.Account{}
	for a, x := range m.versions[parent] {
		accounts[a] = x
	}
	for _, x := range l {
		accounts[x.Address] = whole(x)
	}
	m.parents = append(m.parents, parent)
	m.versions = append(m.versions, accounts)
	return len(m.versions) - 1, 0
}

func (m *model) find(v int, a api.Address) (api.Account, bool) {
	if !m.has(v) {
		return api.Account{}, false
	}
	x, ok := m.versions[v][a]
	return x, ok
}

func (m *model) slot(v int, a api.Address, key api.Word) api.Word {
	x, _ := m.find(v, a)
	for _, slot := range x.Storage {
		if slot.Key == key {
			return slot.Value
		}
	}
	return api.Word{}
}

func (m *model) all(v int) []api.Account {
	if !m.has(v) {
		return nil
	}
	var l []api.Account
	for _, x := range m.versions[v] {
		if !modelEmpty(x) {
			l = append(l, x)
		}
	}
	slices.SortFunc(l, func(x, y api.Account) int { return bytes.Compare(x.Address[:], y.Address[:]) })
	return l
}

func (m *model) parent(v int) (int, bool) {
	if v == 0 || !m.has(v) {
		return 0, false
	}
	return m.parents[v], true
}

// pool are the addresses that rows are drawn from, which differ in their first
// byte, in their last one, and between; the last two are never set.
func pool() []api.Address {
	return []api.Address{
		{19: 2}, {19: 1}, {0: 1}, {9: 255}, {0: 255, 19: 1}, {}, {0: 127, 1: 255}, {0: 1, 19: 255},
		{19: 3}, {0: 2},
	}
}

// keys are the keys that rows are drawn from, rising; the last one is never set.
func keys() []api.Word {
	return []api.Word{{}, {1}, {math.MaxUint64}, {0, 1}, {5, 1}, {1, 0, 1}, {0, 0, 0, 1}, {1, 0, 0, 1}, {0, 0, 0, 1 << 63}}
}

// drawn is an account of one of the addresses that are set, often an empty one.
func drawn(r *rand.Rand) api.Account {
	x := api.Account{Address: pool()[r.IntN(len(pool())-2)]}
	if r.IntN(4) == 0 {
		return x
	}
	x.Nonce = uint64(r.IntN(3))
	if r.IntN(2) == 0 {
		x.Balance[r.IntN(4)] = r.Uint64N(3)
	}
	for range r.IntN(4) {
		x.Code = append(x.Code, byte(r.IntN(256)))
	}
	for _, key := range keys()[:len(keys())-1] {
		if r.IntN(3) == 0 {
			slot := api.Slot{Key: key}
			slot.Value[r.IntN(4)] = 1 + r.Uint64N(9)
			x.Storage = append(x.Storage, slot)
		}
	}
	return x
}

// drawnList is a few drawn accounts; at times one of them isn't right.
func drawnList(r *rand.Rand) []api.Account {
	var l []api.Account
	for range r.IntN(5) {
		l = append(l, drawn(r))
	}
	if len(l) > 0 && r.IntN(8) == 0 {
		i := r.IntN(len(l))
		l[i].Storage = append(l[i].Storage, api.Slot{Key: api.Word{r.Uint64N(2)}, Value: api.Word{r.Uint64N(2)}})
	}
	return l
}

// commit commits the same in both, and tells whether they answer the same.
func commit(t *testing.T, s *store.Store, m *model, parent int, l []api.Account) int {
	t.Helper()
	want, wrong := m.commit(parent, l)
	v, err := s.Commit(parent, l)
	if v != want || err != wrong {
		t.Fatalf("Commit(%d, %v): %d, %d, want %d, %d", parent, l, v, err, want, wrong)
	}
	return v
}

// checkAccount tells whether a version's account of an address is the model's,
// and each of its slots.
func checkAccount(t *testing.T, s *store.Store, m *model, v int, a api.Address) {
	t.Helper()
	want, there := m.find(v, a)
	if x, ok := s.Find(v, a); ok != there || !same(x, want) {
		t.Fatalf("Find(%d, %x): %v, %v, want %v, %v", v, a, x, ok, want, there)
	}
	for _, key := range keys() {
		if w := s.Slot(v, a, key); w != m.slot(v, a, key) {
			t.Fatalf("Slot(%d, %x, %v): %v, want %v", v, a, key, w, m.slot(v, a, key))
		}
	}
}

// checkAll tells whether All answers the model's accounts.
func checkAll(t *testing.T, s *store.Store, m *model, v int) {
	t.Helper()
	if got, want := s.All(v), m.all(v); !slices.EqualFunc(got, want, same) {
		t.Fatalf("All(%d): %v, want %v", v, got, want)
	}
}

// checkVersion tells whether all that is told of a version is the model's.
func checkVersion(t *testing.T, s *store.Store, m *model, v int) {
	t.Helper()
	for _, a := range pool() {
		checkAccount(t, s, m, v, a)
	}
	checkAll(t, s, m, v)
	want, there := m.parent(v)
	if p, ok := s.Parent(v); p != want || ok != there {
		t.Fatalf("Parent(%d): %d, %v, want %d, %v", v, p, ok, want, there)
	}
}

// check tells whether a store is the model: each version, and numbers of none.
func check(t *testing.T, s *store.Store, m *model) {
	t.Helper()
	if s.Len() != len(m.versions) {
		t.Fatalf("Len: %d, want %d", s.Len(), len(m.versions))
	}
	for v := range m.versions {
		checkVersion(t, s, m, v)
	}
	for _, v := range far(s) {
		checkVersion(t, s, m, v)
	}
}

// far are numbers of no version.
func far(s *store.Store) []int {
	n := s.Len()
	return []int{-1, -2, n, n + 1, 2*n + 1, most, 1 << 32, -1 << 32, 1<<32 + n - 1, math.MinInt, math.MaxInt}
}

// told is all that is told of a version, as one text.
func told(s *store.Store, v int) string {
	p, ok := s.Parent(v)
	text := fmt.Sprint(p, ok, s.All(v))
	for _, a := range pool() {
		x, ok := s.Find(v, a)
		text += fmt.Sprint(x, ok)
		for _, key := range keys() {
			text += fmt.Sprint(s.Slot(v, a, key))
		}
	}
	return text
}
