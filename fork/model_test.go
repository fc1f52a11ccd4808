package fork_test

import (
	"bytes"
	"fmt"
	"math"
	"math/big"
	"math/rand/v2"
	"slices"
	"testing"

	"smithy/api"
	"smithy/fork"
)

// What the chapter says, as package api numbers it.
const (
	known    = 1
	asked    = 2
	begun    = 3
	again    = 4
	lost     = 5
	maxTries = 8
)

// at is the address of a small number.
func at(n int) api.Address { return api.Address{17: byte(n >> 16), 18: byte(n >> 8), 19: byte(n)} }

// rich is an account that has no more than an address and a balance.
func rich(a api.Address, n uint64) api.Account {
	return api.Account{Address: a, Balance: api.Word{n}}
}

// slot is one with small numbers.
func slot(key, value uint64) api.Slot {
	return api.Slot{Key: api.Word{key}, Value: api.Word{value}}
}

// number is a word's number, part by part.
func number(w api.Word) *big.Int {
	n := new(big.Int)
	for i := 3; i >= 0; i-- {
		n.Lsh(n, 64).Or(n, new(big.Int).SetUint64(w[i]))
	}
	return n
}

// same tells whether two accounts are the same; a list of nothing may be nil.
func same(x, y api.Account) bool {
	return x.Address == y.Address && x.Nonce == y.Nonce && x.Balance == y.Balance &&
		bytes.Equal(x.Code, y.Code) && slices.Equal(x.Storage, y.Storage)
}

// whole is an account that shares nothing with another one.
func whole(x api.Account) api.Account {
	x.Code = slices.Clone(x.Code)
	x.Storage = slices.Clone(x.Storage)
	return x
}

// modelRight is what chapter 13 says of a storage, all pairs of slots held
// against each other.
func modelRight(x api.Account) bool {
	for i, one := range x.Storage {
		if number(one.Value).Sign() == 0 {
			return false
		}
		for _, other := range x.Storage[i+1:] {
			if number(one.Key).Cmp(number(other.Key)) >= 0 {
				return false
			}
		}
	}
	return true
}

// fetch is an account that is being fetched.
type fetch struct {
	a     api.Address
	tries int
}

// model is a cache that keeps plain lists.
type model struct {
	known   []api.Account
	fetched []fetch
}

// knownAt is the place of an address among those that are known, or -1.
func (m *model) knownAt(a api.Address) int {
	return slices.IndexFunc(m.known, func(x api.Account) bool { return x.Address == a })
}

// fetchedAt is the place of an address among those that are being fetched, or
// -1.
func (m *model) fetchedAt(a api.Address) int {
	return slices.IndexFunc(m.fetched, func(f fetch) bool { return f.a == a })
}

func (m *model) account(a api.Address) (api.Account, bool) {
	if i := m.knownAt(a); i >= 0 {
		return m.known[i], true
	}
	return api.Account{Address: a}, false
}

func (m *model) want(a api.Address) uint8 {
	if m.knownAt(a) >= 0 {
		return known
	}
	if m.fetchedAt(a) >= 0 {
		return asked
	}
	m.fetched = append(m.fetched, fetch{a, 0})
	return begun
}

func (m *model) fill(x api.Account) bool {
	i := m.fetchedAt(x.Address)
	if i < 0 || !modelRight(x) {
		return false
	}
	m.fetched = slices.Delete(m.fetched, i, i+1)
	m.known = append(m.known, whole(x))
	return true
}

func (m *model) fail(a api.Address) uint8 {
	i := m.fetchedAt(a)
	if i < 0 {
		return 0
	}
	m.fetched[i].tries++
	if m.fetched[i].tries == maxTries {
		m.fetched = slices.Delete(m.fetched, i, i+1)
		return lost
	}
	return again
}

func (m *model) tries(a api.Address) int {
	if i := m.fetchedAt(a); i >= 0 {
		return m.fetched[i].tries
	}
	return 0
}

// rising are addresses in the order of their bytes.
func rising(l []api.Address) []api.Address {
	slices.SortFunc(l, func(a, b api.Address) int { return bytes.Compare(a[:], b[:]) })
	return l
}

func (m *model) knownNow() []api.Address {
	var l []api.Address
	for _, x := range m.known {
		l = append(l, x.Address)
	}
	return rising(l)
}

func (m *model) fetchedNow() []api.Address {
	var l []api.Address
	for _, f := range m.fetched {
		l = append(l, f.a)
	}
	return rising(l)
}

// pair is a cache and its model; each call is made on both.
type pair struct {
	t *testing.T
	c *fork.Cache
	m *model
}

func newPair(t *testing.T) pair { return pair{t, fork.New(), &model{}} }

func (p pair) want(a api.Address) uint8 {
	p.t.Helper()
	want := p.m.want(a)
	if got := p.c.Want(a); got != want {
		p.t.Fatalf("Want(%x): %d, want %d", a, got, want)
	}
	p.check(a)
	return want
}

func (p pair) fill(x api.Account) bool {
	p.t.Helper()
	want := p.m.fill(x)
	if got := p.c.Fill(x); got != want {
		p.t.Fatalf("Fill(%v): %v, want %v", x, got, want)
	}
	p.check(x.Address)
	return want
}

func (p pair) fail(a api.Address) uint8 {
	p.t.Helper()
	want := p.m.fail(a)
	if got := p.c.Fail(a); got != want {
		p.t.Fatalf("Fail(%x): %d, want %d", a, got, want)
	}
	p.check(a)
	return want
}

// check tells whether the cache answers what the model does, of the pool's
// addresses and of others, asked twice.
func (p pair) check(others ...api.Address) {
	p.t.Helper()
	for range 2 {
		for _, a := range append(pool(), others...) {
			want, there := p.m.account(a)
			if x, ok := p.c.Account(a); ok != there || !same(x, want) {
				p.t.Fatalf("Account(%x): %v, %v, want %v, %v", a, x, ok, want, there)
			}
			if n := p.c.Tries(a); n != p.m.tries(a) {
				p.t.Fatalf("Tries(%x): %d, want %d", a, n, p.m.tries(a))
			}
		}
		p.checkLists()
	}
}

// checkLists tells whether Known and Fetched are the model's.
func (p pair) checkLists() {
	p.t.Helper()
	if l := p.c.Known(); !slices.Equal(l, p.m.knownNow()) {
		p.t.Fatalf("Known: %x, want %x", l, p.m.knownNow())
	}
	if l := p.c.Fetched(); !slices.Equal(l, p.m.fetchedNow()) {
		p.t.Fatalf("Fetched: %x, want %x", l, p.m.fetchedNow())
	}
}

// pool are the addresses that rows are drawn from, not in their order, some of
// which differ in one byte alone; the last two are never told to a cache.
func pool() []api.Address {
	return []api.Address{
		{0: 1, 9: 7, 19: 2}, {0: 1, 9: 7, 19: 1}, {0: 2, 9: 7, 19: 1}, {0: 255, 9: 7, 19: 1}, {0: 1, 9: 7, 19: 255},
		{0: 1, 9: 200, 19: 1}, {}, {19: 1}, {0: 1}, {0: 127, 1: 255, 19: 3}, {0: 2, 9: 7, 19: 2}, {19: 2},
	}
}

// told are the pool's addresses that a cache may be told.
func told() []api.Address { return pool()[:len(pool())-2] }

// keys are the keys that storages are drawn from, rising.
func keys() []api.Word {
	return []api.Word{{}, {1}, {math.MaxUint64}, {0, 1}, {5, 1}, {1, 0, 1}, {0, 0, 0, 1}, {0, 0, 0, 1 << 63}}
}

// drawn is a right account of an address, often an empty one.
func drawn(r *rand.Rand, a api.Address) api.Account {
	x := api.Account{Address: a}
	if r.IntN(4) == 0 {
		return x
	}
	x.Nonce = r.Uint64() >> r.IntN(64)
	if r.IntN(2) == 0 {
		x.Balance[r.IntN(4)] = r.Uint64()
	}
	for range r.IntN(4) {
		x.Code = append(x.Code, byte(r.IntN(256)))
	}
	for _, key := range keys() {
		if r.IntN(3) == 0 {
			slot := api.Slot{Key: key}
			slot.Value[r.IntN(4)] = 1 + r.Uint64N(9)
			x.Storage = append(x.Storage, slot)
		}
	}
	return x
}

// spoilt is an account whose storage isn't right any more.
func spoilt(r *rand.Rand, x api.Account) api.Account {
	storages := wrongs()
	x.Storage = storages[r.IntN(len(storages))]
	return x
}

// wrongs are storages that aren't right: with a value 0, two slots of one key,
// or slots out of order.
func wrongs() [][]api.Slot {
	high, higher := api.Word{7, 7, 7, 1}, api.Word{6, 6, 6, 2}
	return [][]api.Slot{
		{{}},
		{slot(1, 0)},
		{slot(1, 0), slot(2, 1), slot(3, 1)},
		{slot(1, 1), slot(2, 0), slot(3, 1)},
		{slot(1, 1), slot(2, 1), slot(3, 0)},
		{slot(0, 1), slot(0, 1)},
		{slot(1, 1), slot(1, 2)},
		{slot(1, 1), slot(2, 1), slot(2, 1)},
		{slot(1, 1), slot(2, 1), slot(1, 1)},
		{slot(2, 1), slot(1, 1)},
		{slot(1, 1), slot(3, 1), slot(2, 1)},
		{slot(2, 1), slot(1, 1), slot(3, 1)},
		{{Key: high, Value: api.Word{1}}, {Key: high, Value: api.Word{1}}},
		{{Key: higher, Value: api.Word{1}}, {Key: high, Value: api.Word{1}}},
		{{Key: api.Word{0, 1}, Value: api.Word{1}}, {Key: api.Word{math.MaxUint64}, Value: api.Word{1}}},
	}
}

// text is all that is told of a cache, as one text.
func text(c *fork.Cache) string {
	l := c.Known()
	told := fmt.Sprintln(l, c.Fetched())
	for _, a := range append(pool(), l...) {
		x, ok := c.Account(a)
		told += fmt.Sprintln(x, ok, c.Tries(a))
	}
	return told
}
