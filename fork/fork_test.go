package fork_test

import (
	"bytes"
	"math/rand/v2"
	"slices"
	"testing"

	"smithy/api"
	"smithy/fork"
)

// kinds are what a row of calls may be made of: how often of ten each call is
// drawn (the others are Fail), and on how many addresses.
func kinds() []struct{ want, fill, addresses int } {
	return []struct{ want, fill, addresses int }{{3, 1, 10}, {6, 3, 10}, {2, 0, 3}, {1, 0, 1}, {4, 2, 2}, {2, 1, 5}}
}

// Rows of all calls over few addresses, held against the model behind each
// call.
func TestP151Rows(t *testing.T) {
	r := rand.New(rand.NewPCG(15, 1))
	answers := map[string]int{}
	for i := range 120 {
		p, kind := newPair(t), kinds()[i%len(kinds())]
		p.check()
		for range 80 {
			a := told()[r.IntN(kind.addresses)]
			switch n := r.IntN(10); {
			case n < kind.want:
				answers["Want "+string('0'+rune(p.want(a)))]++
			case n >= kind.want+kind.fill:
				answers["Fail "+string('0'+rune(p.fail(a)))]++
			case r.IntN(3) == 0:
				p.fill(spoilt(r, drawn(r, a)))
			case p.fill(drawn(r, a)):
				answers["Fill"]++
			default:
				answers["Fill of none"]++
			}
		}
	}
	for _, answer := range []string{"Want 1", "Want 2", "Want 3", "Fail 0", "Fail 4", "Fail 5", "Fill", "Fill of none"} {
		if answers[answer] < 50 {
			t.Errorf("the rows have %d of %s", answers[answer], answer)
		}
	}
}

func TestP151New(t *testing.T) {
	p := newPair(t)
	p.check()
	if l := p.c.Known(); len(l) != 0 {
		t.Errorf("Known of none: %x", l)
	}
	if l := p.c.Fetched(); len(l) != 0 {
		t.Errorf("Fetched of none: %x", l)
	}
}

func TestP151Want(t *testing.T) {
	for _, a := range told() {
		p := newPair(t)
		for i, want := range []uint8{begun, asked, asked} {
			if got := p.want(a); got != want {
				t.Errorf("Want(%x) %d: %d", a, i, got)
			}
		}
		p.fail(a)
		p.fail(a)
		// Asked for again, it isn't begun again.
		if got := p.want(a); got != asked || p.c.Tries(a) != 2 {
			t.Errorf("Want(%x) behind two tries: %d, and %d tries", a, got, p.c.Tries(a))
		}
		p.fill(rich(a, 5))
		for range 2 {
			if got := p.want(a); got != known {
				t.Errorf("Want(%x) of a known one: %d", a, got)
			}
		}
		if l := p.c.Fetched(); len(l) != 0 {
			t.Errorf("a known one is being fetched: %x", l)
		}
	}
}

func TestP151WantOfLost(t *testing.T) {
	p := newPair(t)
	a := told()[2]
	for range 3 {
		if got := p.want(a); got != begun {
			t.Errorf("Want: %d", got)
		}
		for i := range maxTries - 1 {
			if got := p.fail(a); got != again || p.c.Tries(a) != i+1 {
				t.Errorf("Fail %d: %d, and %d tries", i, got, p.c.Tries(a))
			}
		}
		if got := p.fail(a); got != lost || p.c.Tries(a) != 0 {
			t.Errorf("the last Fail: %d, and %d tries", got, p.c.Tries(a))
		}
		if l := p.c.Fetched(); len(l) != 0 {
			t.Errorf("a lost one is being fetched: %x", l)
		}
		// One time more.
		if got := p.fail(a); got != 0 || p.c.Tries(a) != 0 {
			t.Errorf("Fail of a lost one: %d, and %d tries", got, p.c.Tries(a))
		}
		if p.fill(rich(a, 5)) {
			t.Error("a lost one is filled")
		}
	}
	if p.want(a) != begun || p.c.Tries(a) != 0 || !p.fill(rich(a, 5)) || p.want(a) != known {
		t.Error("a lost one isn't filled any more")
	}
}

// Tries of one account are its own, whatever is done to others between.
func TestP151FailBeside(t *testing.T) {
	l := told()
	p := newPair(t)
	for _, a := range l[:5] {
		p.want(a)
	}
	for i := range maxTries {
		got, want := p.fail(l[0]), uint8(again)
		if i == maxTries-1 {
			want = lost
		}
		if got != want {
			t.Errorf("Fail %d: %d", i, got)
		}
		switch i {
		case 0:
			p.want(l[5])
		case 1:
			p.fail(l[1])
		case 2:
			p.fill(rich(l[2], 1))
		case 3:
			p.fail(l[1])
			p.want(l[1])
			p.fail(l[2])
		case 4:
			p.want(l[0])
			p.fill(rich(l[6], 1))
		case 5:
			for range maxTries {
				p.fail(l[3])
			}
			p.want(l[3])
		case 6:
			p.fill(api.Account{Address: l[0], Storage: []api.Slot{{}}})
		}
	}
	for i, want := range []int{0, 2, 0, 0, 0, 0} {
		if n := p.c.Tries(l[i]); n != want {
			t.Errorf("Tries of %d: %d, want %d", i, n, want)
		}
	}
	if got := p.fail(l[0]); got != 0 {
		t.Errorf("one time more: %d", got)
	}
}

func TestP151Tries(t *testing.T) {
	p := newPair(t)
	known, fetched, gone, never := told()[0], told()[1], told()[2], told()[3]
	for _, a := range []api.Address{known, fetched, gone} {
		p.want(a)
		p.fail(a)
		p.fail(a)
		p.fail(a)
	}
	p.fill(rich(known, 1))
	for range maxTries - 3 {
		p.fail(gone)
	}
	for range 3 {
		for a, want := range map[api.Address]int{known: 0, fetched: 3, gone: 0, never: 0} {
			if n := p.c.Tries(a); n != want {
				t.Errorf("Tries(%x): %d, want %d", a, n, want)
			}
		}
		// Neither a known account nor one that was never wanted fails.
		if p.fail(known) != 0 || p.fail(never) != 0 || p.fail(gone) != 0 {
			t.Error("what isn't being fetched fails")
		}
	}
}

func TestP151FillOfNone(t *testing.T) {
	a, other := told()[0], told()[1]
	full := api.Account{Address: a, Nonce: 1, Balance: api.Word{2}, Code: []byte{3}, Storage: []api.Slot{slot(4, 5)}}
	p := newPair(t)
	if p.fill(full) || p.fill(api.Account{Address: a}) {
		t.Error("what was never wanted is filled")
	}
	p.want(other)
	if p.fill(full) {
		t.Error("what was never wanted is filled beside another one")
	}
	p.want(a)
	if !p.fill(full) {
		t.Error("what is being fetched isn't filled")
	}
	for _, x := range []api.Account{full, {Address: a}, rich(a, 9), {Address: a, Nonce: 1, Storage: []api.Slot{slot(4, 6)}}} {
		if p.fill(x) {
			t.Errorf("a known one is filled again: %v", x)
		}
	}
	p.want(a)
	if p.fill(rich(a, 9)) {
		t.Error("a known one that is asked for is filled again")
	}
	if x, ok := p.c.Account(a); !ok || !same(x, full) {
		t.Errorf("it is %v, %v", x, ok)
	}
	if !p.fill(rich(other, 9)) {
		t.Error("the other one isn't filled")
	}
}

// An account that isn't right leaves it being fetched, its tries as they were.
func TestP151FillNotRight(t *testing.T) {
	for i, storage := range wrongs() {
		for tries := range maxTries {
			p := newPair(t)
			a := told()[i%len(told())]
			wrong := api.Account{Address: a, Nonce: 7, Balance: api.Word{8}, Code: []byte{9}, Storage: storage}
			if p.fill(wrong) {
				t.Errorf("filled with %v, never wanted", storage)
			}
			p.want(a)
			for range tries {
				p.fail(a)
			}
			for range 2 {
				if p.fill(wrong) {
					t.Errorf("filled with %v", storage)
				}
				if n := p.c.Tries(a); n != tries || p.want(a) != asked {
					t.Errorf("behind %v: %d tries, want %d", storage, n, tries)
				}
			}
			if tries == maxTries-1 && p.fail(a) != lost {
				t.Errorf("behind %v: the last try isn't the last one", storage)
			}
			p.want(a)
			right := wrong
			right.Storage = []api.Slot{slot(0, 1), slot(1, 1)}
			if !p.fill(right) {
				t.Errorf("behind %v: not filled", storage)
			}
			if p.fill(wrong) {
				t.Errorf("filled with %v, known already", storage)
			}
		}
	}
}

func TestP151FillOfEmpty(t *testing.T) {
	for i, a := range told() {
		p := newPair(t)
		p.want(a)
		x := api.Account{Address: a}
		if i%2 == 0 {
			x.Code, x.Storage = make([]byte, 0, 9), []api.Slot{}
		}
		if !p.fill(x) {
			t.Errorf("not filled with %v", x)
		}
		if y, ok := p.c.Account(a); !ok || !same(y, x) {
			t.Errorf("Account(%x): %v, %v", a, y, ok)
		}
		if l := p.c.Known(); len(l) != 1 || l[0] != a || p.want(a) != known || p.fill(rich(a, 1)) || p.fail(a) != 0 {
			t.Errorf("an empty account isn't known: %x", l)
		}
	}
}

// All that an account has is kept.
func TestP151Whole(t *testing.T) {
	r := rand.New(rand.NewPCG(15, 2))
	l := []api.Account{
		{Nonce: 1 << 63}, {Balance: api.Word{0, 0, 0, 1 << 63}}, {Code: make([]byte, 3)}, {Code: bytes.Repeat([]byte{1, 2, 3}, 1<<16)},
		{Storage: []api.Slot{slot(0, 1)}}, {Storage: []api.Slot{{Key: api.Word{1, 2, 3, 4}, Value: api.Word{0, 0, 0, 1}}}},
	}
	for i := range 200 {
		x := drawn(r, api.Address{})
		if i < len(l) {
			x = l[i]
		}
		x.Address = told()[r.IntN(len(told()))]
		p := newPair(t)
		p.want(x.Address)
		if !p.fill(x) {
			t.Errorf("not filled: %v", x)
		}
		if y, ok := p.c.Account(x.Address); !ok || !same(x, y) {
			t.Errorf("filled with %v, it is %v", x, y)
		}
	}
}

// Addresses that differ in one byte alone, wanted in drawn orders.
func TestP151Rising(t *testing.T) {
	r := rand.New(rand.NewPCG(15, 3))
	for place := range 20 {
		p := newPair(t)
		var l []api.Address
		for _, b := range []byte{0, 1, 2, 9, 127, 128, 200, 255} {
			a := api.Address{0: 3, 7: 3, 8: 3, 15: 3, 16: 3, 19: 3}
			a[place] = b
			l = append(l, a)
		}
		for _, i := range r.Perm(len(l)) {
			p.want(l[i])
		}
		if got := p.c.Fetched(); !slices.Equal(got, l) {
			t.Errorf("byte %d: Fetched: %x", place, got)
		}
		for _, i := range r.Perm(len(l)) {
			p.fill(rich(l[i], uint64(i)))
		}
		if got := p.c.Known(); !slices.Equal(got, l) {
			t.Errorf("byte %d: Known: %x", place, got)
		}
		if got := p.c.Fetched(); len(got) != 0 {
			t.Errorf("byte %d: still being fetched: %x", place, got)
		}
	}
}

func TestP151RisingDrawn(t *testing.T) {
	r := rand.New(rand.NewPCG(15, 4))
	p := newPair(t)
	for i := range 400 {
		var a api.Address
		a[r.IntN(20)], a[r.IntN(20)] = byte(r.IntN(256)), byte(r.IntN(256))
		p.want(a)
		if i%2 == 0 {
			p.fill(rich(a, uint64(i)))
		}
	}
	for _, l := range [][]api.Address{p.c.Known(), p.c.Fetched()} {
		if len(l) < 150 {
			t.Errorf("only %d addresses", len(l))
		}
		for i := range l[1:] {
			if bytes.Compare(l[i][:], l[i+1][:]) >= 0 {
				t.Fatalf("%x ahead of %x", l[i], l[i+1])
			}
		}
	}
}

// Were each address looked for from the first one on, this would take minutes.
func TestP151Many(t *testing.T) {
	const many = 1 << 18
	c := fork.New()
	for i := range many {
		if c.Want(at(i)) != begun || c.Fail(at(i)) != again || c.Want(at(i)) != asked {
			t.Fatalf("address %d isn't begun", i)
		}
	}
	for i := many - 1; i >= 0; i -= 2 {
		if !c.Fill(rich(at(i), uint64(i))) || c.Want(at(i)) != known {
			t.Fatalf("address %d isn't filled", i)
		}
	}
	for i := range many {
		if x, ok := c.Account(at(i)); ok != (i%2 == 1) || ok && !same(x, rich(at(i), uint64(i))) || c.Tries(at(i)) != 1-i%2 {
			t.Fatalf("address %d: %v, %v", i, x, ok)
		}
	}
	known, fetched := c.Known(), c.Fetched()
	if len(known) != many/2 || len(fetched) != many/2 {
		t.Fatalf("%d are known, %d being fetched", len(known), len(fetched))
	}
	for i := range many / 2 {
		if known[i] != at(2*i+1) || fetched[i] != at(2*i) {
			t.Fatalf("at %d: %x, %x", i, known[i], fetched[i])
		}
	}
}

// remoteState is what a remote chain has of the addresses that are told.
func remoteState(r *rand.Rand) map[api.Address]api.Account {
	remote := map[api.Address]api.Account{}
	for _, a := range told() {
		remote[a] = drawn(r, a)
	}
	return remote
}

// fetchEach fetches all accounts one behind the other, without a failure.
func fetchEach(c *fork.Cache, remote map[api.Address]api.Account) {
	for _, a := range told() {
		c.Want(a)
		c.Fill(remote[a])
	}
}

// fetchDrawn fetches all accounts in a drawn order, with drawn failures
// between, answers that aren't right, and some that nobody waits for.
func fetchDrawn(r *rand.Rand, c *fork.Cache, remote map[api.Address]api.Account) {
	known := 0
	for step := 0; step < 1<<16 && known < len(remote); step++ {
		a := told()[r.IntN(len(remote))]
		switch r.IntN(6) {
		case 0, 1:
			c.Want(a)
		case 2, 3:
			c.Fail(a)
		case 4:
			c.Fill(spoilt(r, remote[a]))
		case 5:
			if c.Fill(remote[a]) {
				known++
			}
		}
	}
}

func TestP152WhateverTheWay(t *testing.T) {
	r := rand.New(rand.NewPCG(15, 5))
	for range 20 {
		remote, first := remoteState(r), fork.New()
		fetchEach(first, remote)
		for range 20 {
			c := fork.New()
			fetchDrawn(r, c, remote)
			if l := c.Known(); !slices.Equal(l, rising(told())) {
				t.Fatalf("Known: %x", l)
			}
			for a, x := range remote {
				if y, ok := c.Account(a); !ok || !same(x, y) {
					t.Fatalf("Account(%x): %v, %v, want %v", a, y, ok, x)
				}
			}
			if got, want := text(c), text(first); got != want {
				t.Fatalf("this way is told\n%s\nand another way\n%s", got, want)
			}
		}
	}
}

// What is known is the remote state's at each time, not at last alone.
func TestP152AtEachTime(t *testing.T) {
	r := rand.New(rand.NewPCG(15, 6))
	for range 30 {
		remote, c := remoteState(r), fork.New()
		filled := map[api.Address]bool{}
		for range 150 {
			a := told()[r.IntN(len(told()))]
			switch r.IntN(4) {
			case 0:
				c.Want(a)
			case 1, 2:
				c.Fail(a)
			case 3:
				if c.Fill(remote[a]) {
					filled[a] = true
				}
			}
			if len(c.Known()) != len(filled) {
				t.Fatalf("Known: %x, filled: %v", c.Known(), filled)
			}
			for a, x := range remote {
				if y, ok := c.Account(a); ok != filled[a] || ok && !same(x, y) {
					t.Fatalf("Account(%x): %v, %v, want %v, %v", a, y, ok, x, filled[a])
				}
			}
		}
	}
}

// Two caches know nothing of each other.
func TestTwoCaches(t *testing.T) {
	r := rand.New(rand.NewPCG(15, 7))
	l := []pair{newPair(t), newPair(t)}
	for range 300 {
		p, a := l[r.IntN(2)], told()[r.IntN(3)]
		switch r.IntN(8) {
		case 0, 1, 2:
			p.want(a)
		case 3:
			p.fill(drawn(r, told()[r.IntN(len(told()))]))
		default:
			p.fail(a)
		}
		l[0].check()
		l[1].check()
	}
}

func TestNil(t *testing.T) {
	var c *fork.Cache
	for range 2 {
		for _, a := range pool() {
			if x, ok := c.Account(a); ok || !same(x, api.Account{Address: a}) {
				t.Errorf("Account(%x): %v, %v", a, x, ok)
			}
			if n := c.Want(a); n != 0 {
				t.Errorf("Want(%x): %d", a, n)
			}
			for _, x := range []api.Account{{Address: a}, rich(a, 1), {Address: a, Storage: []api.Slot{{}}}} {
				if c.Fill(x) {
					t.Errorf("Fill(%v)", x)
				}
			}
			if n := c.Fail(a); n != 0 {
				t.Errorf("Fail(%x): %d", a, n)
			}
			if n := c.Tries(a); n != 0 {
				t.Errorf("Tries(%x): %d", a, n)
			}
		}
		if l := c.Known(); len(l) != 0 {
			t.Errorf("Known: %x", l)
		}
		if l := c.Fetched(); len(l) != 0 {
			t.Errorf("Fetched: %x", l)
		}
	}
}

func TestExamples(t *testing.T) {
	c := fork.New()
	if n := c.Want(at(1)); n != api.Begun {
		t.Errorf("the first Want: %d", n)
	}
	if n := c.Want(at(1)); n != api.Asked {
		t.Errorf("the second Want: %d", n)
	}
	for i := range 7 {
		if n := c.Fail(at(1)); n != api.Again {
			t.Errorf("Fail %d: %d", i, n)
		}
	}
	if n := c.Fail(at(1)); n != api.Lost {
		t.Errorf("the eighth Fail: %d", n)
	}
	if n := c.Want(at(1)); n != api.Begun {
		t.Errorf("Want of a lost one: %d", n)
	}
}
