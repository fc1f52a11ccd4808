package state

import (
	"bytes"
	"slices"

	"smithy/api"
	"smithy/word"
)

// account is what a state has of an address.
type account struct {
	world     api.Account // what it was at first
	nonce     uint64
	balance   api.Word
	code      string // so that it can't be changed, and is compared as a whole
	storage   *storage
	warm      bool
	warmSlots map[api.Word]struct{}
	destroyed bool
}

// newAccount is an account as the world has it.
func newAccount(x api.Account) *account {
	x = copied(x)
	x.Storage = rising(x.Storage)
	return &account{
		world:     x,
		nonce:     x.Nonce,
		balance:   x.Balance,
		code:      string(x.Code),
		storage:   newStorage(x.Storage),
		warmSlots: map[api.Word]struct{}{},
	}
}

// atLast is what an account is when all is over.
func (x *account) atLast() api.Account {
	if x.destroyed {
		return api.Account{Address: x.world.Address}
	}
	return api.Account{
		Address: x.world.Address,
		Nonce:   x.nonce,
		Balance: x.balance,
		Code:    []byte(x.code),
		Storage: x.storage.all(),
	}
}

// same tells whether two accounts of one address are the same.
func same(x, y api.Account) bool {
	return x.Nonce == y.Nonce && x.Balance == y.Balance &&
		bytes.Equal(x.Code, y.Code) && slices.Equal(x.Storage, y.Storage)
}

// storage is what an account has stored. A fresh account has a new one, to
// which the world's slots are nothing.
type storage struct {
	first []api.Slot            // by rising keys
	now   map[api.Word]api.Word // what isn't as at first, values 0 too
}

// newStorage is one with what it had at first.
func newStorage(first []api.Slot) *storage {
	return &storage{first: first, now: map[api.Word]api.Word{}}
}

// atFirst is what a slot had at first.
func (s *storage) atFirst(key api.Word) api.Word {
	i, ok := slices.BinarySearchFunc(s.first, key, compareKey)
	if !ok {
		return api.Word{}
	}
	return s.first[i].Value
}

// load is what a slot has.
func (s *storage) load(key api.Word) api.Word {
	if value, ok := s.now[key]; ok {
		return value
	}
	return s.atFirst(key)
}

// set stores a word.
func (s *storage) set(key, value api.Word) {
	if value == s.atFirst(key) {
		delete(s.now, key)
		return
	}
	s.now[key] = value
}

// all are the slots, by rising keys, without values 0.
func (s *storage) all() []api.Slot {
	var l []api.Slot
	for _, slot := range s.first {
		if _, ok := s.now[slot.Key]; !ok {
			l = append(l, slot)
		}
	}
	for key, value := range s.now {
		if value != (api.Word{}) {
			l = append(l, api.Slot{Key: key, Value: value})
		}
	}
	slices.SortFunc(l, compareSlots)
	return l
}

// rising puts slots in the order of a right account, the first one of each key,
// without values 0: a world may be anybody's, and answer an account that isn't
// right.
func rising(l []api.Slot) []api.Slot {
	slices.SortStableFunc(l, compareSlots)
	l = slices.CompactFunc(l, func(a, b api.Slot) bool { return a.Key == b.Key })
	return slices.DeleteFunc(l, func(x api.Slot) bool { return x.Value == api.Word{} })
}

// compareSlots is how two slots' keys stand to each other.
func compareSlots(a, b api.Slot) int { return word.Compare(a.Key, b.Key) }

// compareKey is how a slot's key stands to another key.
func compareKey(slot api.Slot, key api.Word) int { return word.Compare(slot.Key, key) }
