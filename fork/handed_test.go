package fork_test

import (
	"fmt"
	"slices"
	"testing"

	"smithy/api"
	"smithy/fork"
	"smithy/store"
)

// spare is a list with room behind it, and something in it.
func spare[T any](l []T, behind T) []T {
	roomy := append(append(make([]T, 0, len(l)+3), l...), behind, behind, behind)
	return roomy[:len(l)]
}

// full is an account with all that one may have, its lists with room.
func full(a api.Address, seed byte) api.Account {
	return api.Account{
		Address: a,
		Nonce:   uint64(seed),
		Balance: api.Word{uint64(seed), 0, 0, 1},
		Code:    spare([]byte{seed, seed + 1, 0, 255}, 77),
		Storage: spare([]api.Slot{slot(1, 4), slot(2, 5), slot(3, uint64(seed))}, slot(7, 0)),
	}
}

// memory is all of an account's memory, spare room too, as one text.
func memory(x api.Account) string {
	return fmt.Sprint(x, x.Code[:cap(x.Code)], x.Storage[:cap(x.Storage)])
}

// wear changes an account at a place in its memory, spare room too, and tells
// whether there is such a place.
func wear(x *api.Account, place int) bool {
	code, storage := x.Code[:cap(x.Code)], x.Storage[:cap(x.Storage)]
	switch {
	case place < len(code):
		code[place] ^= 255
	case place < len(code)+len(storage):
		storage[place-len(code)].Key[0] ^= 64
	case place < len(code)+2*len(storage):
		storage[place-len(code)-len(storage)].Value[3] ^= 1
	case place == len(code)+2*len(storage):
		x.Nonce, x.Balance, x.Address = 99, api.Word{99}, told()[2]
	case place == len(code)+2*len(storage)+1:
		x.Code, x.Storage = nil, nil
	default:
		return false
	}
	return true
}

func TestHandedInStays(t *testing.T) {
	a := told()[0]
	x := full(a, 3)
	before := memory(x)
	wrong := full(a, 3)
	wrong.Storage[2].Value = api.Word{}
	wrongBefore := memory(wrong)
	c := fork.New()
	c.Fill(x)
	c.Want(a)
	c.Fill(wrong)
	c.Fail(a)
	c.Fill(x)
	c.Fill(x)
	c.Account(a)
	fork.Over(store.New(), 0, c).Account(a)
	if memory(x) != before {
		t.Errorf("what was handed in is changed: %s", memory(x))
	}
	if memory(wrong) != wrongBefore {
		t.Errorf("what was handed in, and isn't right, is changed: %s", memory(wrong))
	}
}

func TestHandedInIsNotKept(t *testing.T) {
	for place := 0; ; place++ {
		p := newPair(t)
		x, other := full(told()[0], 3), full(told()[1], 9)
		p.want(x.Address)
		p.want(other.Address)
		p.fill(x)
		p.fill(other)
		if !wear(&x, place) {
			break
		}
		p.check()
	}
}

// What was refused isn't kept either.
func TestRefusedIsNotKept(t *testing.T) {
	p := newPair(t)
	x := full(told()[0], 3)
	x.Storage[0].Value = api.Word{}
	p.want(x.Address)
	p.fill(x)
	x.Storage[0].Value = api.Word{1}
	p.check()
	p.fill(x)
	p.fill(full(x.Address, 9))
	p.check()
}

func TestAnswersAreNobodyElses(t *testing.T) {
	p := newPair(t)
	l := told()
	for i, a := range l[:6] {
		p.want(a)
		p.fill(full(a, byte(i)))
	}
	for _, a := range l[6:] {
		p.want(a)
	}
	for _, a := range l {
		for place := 0; ; place++ {
			x, _ := p.c.Account(a)
			other, _ := p.c.Account(a)
			before := whole(other)
			if !wear(&x, place) {
				break
			}
			if !same(other, before) {
				t.Fatalf("Account(%x) answers the same memory twice", a)
			}
			p.check()
		}
	}
	for _, answer := range []func() []api.Address{p.c.Known, p.c.Fetched} {
		one, other := answer(), answer()
		before := slices.Clone(other)
		one = one[:cap(one)]
		for i := range one {
			one[i] = api.Address{5: 99}
		}
		if !slices.Equal(other, before) {
			t.Errorf("the same memory is answered twice: %x", other)
		}
		p.check(api.Address{5: 99})
	}
}

// A world's answers are worn: neither the store nor the cache changes.
func TestWorldsAnswersAreNobodyElses(t *testing.T) {
	local, remote := told()[0], told()[1]
	s, c := store.New(), fork.New()
	s.Commit(0, []api.Account{full(local, 3)})
	for _, a := range []api.Address{local, remote} {
		c.Want(a)
		c.Fill(full(a, 9))
	}
	w, before := fork.Over(s, 1, c), text(c)
	for _, a := range []api.Address{local, remote, told()[3]} {
		want, known := w.Account(a)
		want = whole(want)
		for place := 0; ; place++ {
			x, _ := w.Account(a)
			if !wear(&x, place) {
				break
			}
			answers(t, w, a, want, known)
			answers(t, fork.Over(s, 1, c), a, want, known)
			if y, ok := s.Find(1, local); !ok || !same(y, full(local, 3)) {
				t.Fatalf("the store has %v", y)
			}
			if got := text(c); got != before {
				t.Fatalf("the cache was\n%s\nand is\n%s", before, got)
			}
		}
	}
}
