package store_test

import (
	"slices"
	"testing"

	"smithy/api"
	"smithy/store"
)

// spare is a list with room behind it, and something in it.
func spare[T any](l []T, behind T) []T {
	roomy := append(append(make([]T, 0, len(l)+3), l...), behind, behind, behind)
	return roomy[:len(l)]
}

// some is an account of each kind of thing, its lists with room behind them.
func some(a api.Address, seed byte) api.Account {
	return api.Account{
		Address: a,
		Nonce:   uint64(seed),
		Balance: api.Word{uint64(seed), 0, 0, 1},
		Code:    spare([]byte{seed, seed + 1, 0, 255}, 77),
		Storage: spare(slots(api.Word{1}, api.Word{2}, api.Word{0, 0, 0, 1}), api.Slot{Key: api.Word{7}}),
	}
}

// handed is a list of such accounts, with room behind it.
func handed() []api.Account {
	return spare([]api.Account{some(pool()[0], 1), some(pool()[1], 11), some(pool()[0], 21)}, some(pool()[2], 31))
}

// wear changes an account at a place in its memory, spare room too, and
// tells whether there is such a place.
func wear(x *api.Account, place int) bool {
	code, storage := x.Code[:cap(x.Code)], x.Storage[:cap(x.Storage)]
	switch {
	case place < len(code):
		code[place] ^= 255
	case place < len(code)+len(storage):
		storage[place-len(code)].Key[0] ^= 64
	case place < len(code)+2*len(storage):
		storage[place-len(code)-len(storage)].Value[3] ^= 1
	case place == len(code)+2*len(storage):
		x.Nonce, x.Balance, x.Address = 99, api.Word{99}, pool()[2]
	case place == len(code)+2*len(storage)+1:
		x.Code, x.Storage = nil, nil
	default:
		return false
	}
	return true
}

func TestHandedInStays(t *testing.T) {
	l := handed()
	before := wholes(l[:cap(l)])
	codes, storages := make([][]byte, len(before)), make([][]api.Slot, len(before))
	for i, x := range l[:cap(l)] {
		codes[i], storages[i] = slices.Clone(x.Code[:cap(x.Code)]), slices.Clone(x.Storage[:cap(x.Storage)])
	}
	s := store.New()
	s.Commit(0, l)
	s.Commit(1, l)
	s.Commit(7, l)
	store.Right(l[0])
	store.Empty(l[0])
	s.Find(1, l[0].Address)
	for i, x := range l[:cap(l)] {
		if !same(x, before[i]) || !slices.Equal(x.Code[:cap(x.Code)], codes[i]) || !slices.Equal(x.Storage[:cap(x.Storage)], storages[i]) {
			t.Errorf("account %d is changed: %v", i, x)
		}
	}
	wrong := nought(slots(api.Word{2}, api.Word{1}), 1)
	kept := slices.Clone(wrong)
	s.Commit(0, []api.Account{{Storage: wrong}})
	if store.Right(api.Account{Storage: wrong}) || !slices.Equal(wrong, kept) {
		t.Errorf("a storage that isn't right is changed: %v", wrong)
	}
}

func TestHandedInIsNotKept(t *testing.T) {
	for i := range 3 {
		for place := 0; ; place++ {
			s, m := store.New(), newModel()
			l := handed()
			commit(t, s, m, 0, l)
			commit(t, s, m, 1, nil)
			if !wear(&l[i], place) {
				break
			}
			check(t, s, m)
		}
	}
	s, m := store.New(), newModel()
	l := handed()
	commit(t, s, m, 0, l)
	for i := range l[:cap(l)] {
		l[:cap(l)][i] = rich(pool()[i%3], 1234)
	}
	check(t, s, m)
	commit(t, s, m, 1, l)
	check(t, s, m)
}

func TestAnswersAreNobodyElses(t *testing.T) {
	s, m := store.New(), newModel()
	commit(t, s, m, 0, handed())
	commit(t, s, m, 1, []api.Account{some(pool()[4], 3)})
	for v := 1; v <= 2; v++ {
		for _, a := range pool() {
			for place := 0; ; place++ {
				x, _ := s.Find(v, a)
				other, _ := s.Find(v, a)
				before := whole(other)
				if !wear(&x, place) {
					break
				}
				if !same(other, before) {
					t.Fatalf("Find(%d, %x) answers the same memory twice", v, a)
				}
				check(t, s, m)
			}
		}
		for i := range s.All(v) {
			for place := 0; ; place++ {
				l, others := s.All(v), s.All(v)
				before := wholes(l)
				if !wear(&l[i], place) {
					break
				}
				for j := range l {
					if j != i && !same(l[j], before[j]) || !same(others[j], before[j]) {
						t.Fatalf("All(%d): account %d is changed with %d", v, j, i)
					}
				}
				check(t, s, m)
			}
		}
		l := s.All(v)
		clear(l[:cap(l)])
		check(t, s, m)
	}
}
