package store_test

import (
	"bytes"
	"fmt"
	"math"
	"math/rand/v2"
	"slices"
	"testing"

	"smithy/api"
	"smithy/store"
)

// slots are some slots of these keys, with values that aren't 0.
func slots(keys ...api.Word) []api.Slot {
	var l []api.Slot
	for i, key := range keys {
		l = append(l, api.Slot{Key: key, Value: api.Word{uint64(i + 1)}})
	}
	return l
}

// nought is slots with one value that is 0.
func nought(l []api.Slot, i int) []api.Slot {
	l[i].Value = api.Word{}
	return l
}

func TestP131Right(t *testing.T) {
	high, higher := api.Word{7, 7, 7, 1}, api.Word{7, 7, 7, 1 << 63}
	for i, row := range []struct {
		storage []api.Slot
		want    bool
	}{
		{nil, true},
		{[]api.Slot{}, true},
		{slots(api.Word{}), true},
		{slots(api.Word{0, 0, 0, math.MaxUint64}), true},
		{[]api.Slot{{Key: api.Word{1}, Value: api.Word{0, 0, 0, 1}}}, true},
		{[]api.Slot{{Key: api.Word{1}, Value: api.Word{0, 1}}, {Key: api.Word{2}, Value: api.Word{0, 0, 1}}}, true},
		{slots(api.Word{}, api.Word{1}, api.Word{2}), true},
		{slots(api.Word{math.MaxUint64}, api.Word{0, 1}, api.Word{0, 0, 1}, api.Word{0, 0, 0, 1}), true},
		{slots(high, higher), true},
		{slots(higher, high), false},
		{slots(api.Word{0, 1}, api.Word{math.MaxUint64}), false},
		{slots(api.Word{0, 0, 1}, api.Word{0, math.MaxUint64}), false},
		{nought(slots(api.Word{}), 0), false},
		{nought(slots(api.Word{9}), 0), false},
		{nought(slots(api.Word{1}, api.Word{2}, api.Word{3}), 0), false},
		{nought(slots(api.Word{1}, api.Word{2}, api.Word{3}), 1), false},
		{nought(slots(api.Word{1}, api.Word{2}, api.Word{3}), 2), false},
		{slots(api.Word{}, api.Word{}), false},
		{slots(api.Word{1}, api.Word{1}), false},
		{slots(high, high), false},
		{slots(api.Word{1}, api.Word{2}, api.Word{2}), false},
		{slots(api.Word{1}, api.Word{2}, api.Word{1}), false},
		{slots(api.Word{2}, api.Word{1}), false},
		{slots(api.Word{2}, api.Word{1}, api.Word{3}), false},
		{slots(api.Word{1}, api.Word{3}, api.Word{2}), false},
		{slots(api.Word{3}, api.Word{4}, api.Word{1}, api.Word{2}), false},
	} {
		// Nothing but the storage counts.
		for _, x := range []api.Account{{}, {Address: at(9), Nonce: 1, Balance: api.Word{1}, Code: []byte{0}}} {
			x.Storage = row.storage
			if got := store.Right(x); got != row.want || modelRight(x) != row.want {
				t.Errorf("row %d: Right of %v: %v, want %v", i, row.storage, got, row.want)
			}
		}
	}
}

func TestP131RightDrawn(t *testing.T) {
	r := rand.New(rand.NewPCG(13, 1))
	right := 0
	for range 20000 {
		var x api.Account
		for range r.IntN(4) {
			var slot api.Slot
			slot.Key[r.IntN(4)] = r.Uint64N(3)
			slot.Value[r.IntN(4)] = min(r.Uint64N(8), 1)
			x.Storage = append(x.Storage, slot)
		}
		want := modelRight(x)
		if got := store.Right(x); got != want {
			t.Fatalf("Right of %v: %v", x.Storage, got)
		}
		if want && len(x.Storage) > 1 {
			right++
		}
	}
	if right < 1000 {
		t.Errorf("only %d drawn storages of some slots are right", right)
	}
}

func TestP131Empty(t *testing.T) {
	for i, row := range []struct {
		x    api.Account
		want bool
	}{
		{api.Account{}, true},
		{api.Account{Address: at(1)}, true},
		{api.Account{Address: at(1), Code: []byte{}, Storage: []api.Slot{}}, true},
		{api.Account{Code: make([]byte, 0, 9), Storage: make([]api.Slot, 0, 9)}, true},
		{api.Account{Nonce: 1}, false},
		{api.Account{Nonce: 1 << 63}, false},
		{api.Account{Balance: api.Word{1}}, false},
		{api.Account{Balance: api.Word{0, 1}}, false},
		{api.Account{Balance: api.Word{0, 0, 1}}, false},
		{api.Account{Balance: api.Word{0, 0, 0, 1}}, false},
		{api.Account{Balance: api.Word{0, 0, 0, 1 << 63}}, false},
		{api.Account{Code: []byte{0}}, false},
		{api.Account{Code: []byte{1, 2}}, false},
		{api.Account{Storage: slots(api.Word{})}, false},
		{api.Account{Storage: []api.Slot{{}}}, false}, // not right, but not nothing either
		{api.Account{Nonce: 1, Balance: api.Word{1}, Code: []byte{1}, Storage: slots(api.Word{1})}, false},
	} {
		if got := store.Empty(row.x); got != row.want {
			t.Errorf("row %d: Empty of %v: %v, want %v", i, row.x, got, row.want)
		}
		row.x.Address = api.Address{0: 255}
		if got := store.Empty(row.x); got != row.want {
			t.Errorf("row %d: Empty of %v: %v, want %v", i, row.x, got, row.want)
		}
	}
}

// Versions are made on drawn parents, and whole stores are held against the
// model behind each of them.
func TestP131Rows(t *testing.T) {
	r := rand.New(rand.NewPCG(13, 2))
	for row := range 40 {
		s, m := store.New(), newModel()
		check(t, s, m)
		for range 10 + row {
			parent := r.IntN(s.Len()+2) - 1
			if row%2 == 0 { // rather the latest ones
				parent = s.Len() - 1 - min(r.IntN(3), r.IntN(3))
			}
			commit(t, s, m, parent, drawnList(r))
			check(t, s, m)
		}
	}
}

func TestP131NoParent(t *testing.T) {
	s, m := store.New(), newModel()
	wrong := api.Account{Address: at(2), Storage: []api.Slot{{}}}
	for range 3 {
		for _, parent := range far(s) {
			for _, l := range [][]api.Account{nil, {}, {rich(at(1), 5)}, {wrong}, {rich(at(1), 5), wrong}} {
				if v, err := s.Commit(parent, l); v != 0 || err != 12 {
					t.Fatalf("Commit(%d, %v): %d, %d", parent, l, v, err)
				}
			}
		}
		check(t, s, m)
		commit(t, s, m, s.Len()-1, []api.Account{rich(pool()[0], uint64(s.Len()))})
	}
	check(t, s, m)
}

func TestP131NotRight(t *testing.T) {
	s, m := store.New(), newModel()
	commit(t, s, m, 0, []api.Account{rich(pool()[0], 1), rich(pool()[1], 2)})
	for _, storage := range [][]api.Slot{
		{{}}, {{Key: api.Word{1}}}, slots(api.Word{1}, api.Word{1}), slots(api.Word{2}, api.Word{1}),
		nought(slots(api.Word{1}, api.Word{2}), 1), slots(api.Word{0, 0, 0, 1}, api.Word{1}),
	} {
		for place := range 4 {
			l := []api.Account{rich(pool()[0], 7), rich(pool()[2], 8), rich(pool()[3], 9)}
			wrong := api.Account{Address: pool()[4], Storage: storage}
			// A right account of its address behind it doesn't make it right.
			for _, l := range [][]api.Account{slices.Insert(slices.Clone(l), place, wrong), append(slices.Insert(l, place, wrong), rich(pool()[4], 3))} {
				for _, parent := range []int{0, 1} {
					if v, err := s.Commit(parent, l); v != 0 || err != 1 {
						t.Fatalf("Commit(%d, %v): %d, %d", parent, l, v, err)
					}
				}
			}
		}
	}
	check(t, s, m)
	if v := commit(t, s, m, 1, nil); v != 2 {
		t.Errorf("behind those that were refused: %d", v)
	}
	check(t, s, m)
}

func TestP131LastOfOneAddress(t *testing.T) {
	full := api.Account{Address: pool()[0], Nonce: 4, Balance: api.Word{5}, Code: []byte{6}, Storage: slots(api.Word{1})}
	empty := api.Account{Address: pool()[0]}
	other := rich(pool()[1], 9)
	for _, l := range [][]api.Account{
		{full, empty}, {empty, full}, {full, rich(pool()[0], 8)}, {rich(pool()[0], 8), full},
		{full, other, empty}, {other, full, other, empty, full}, {other, rich(pool()[1], 8), full, other},
		{full, full, full, rich(pool()[0], 1), rich(pool()[0], 2), rich(pool()[0], 3)},
	} {
		s, m := store.New(), newModel()
		for parent := range 3 {
			commit(t, s, m, parent, l)
			check(t, s, m)
		}
		commit(t, s, m, 0, []api.Account{rich(pool()[0], 7)})
		check(t, s, m)
	}
}

// An account that is set to be empty hides the one above it: it is found, but
// not among all.
func TestP131SetEmpty(t *testing.T) {
	s, m := store.New(), newModel()
	a, b := pool()[0], pool()[1]
	full := api.Account{Address: a, Nonce: 1, Balance: api.Word{2}, Code: []byte{3}, Storage: slots(api.Word{}, api.Word{1})}
	commit(t, s, m, 0, []api.Account{full, rich(b, 1)})
	commit(t, s, m, 1, []api.Account{{Address: a}})
	commit(t, s, m, 2, []api.Account{{Address: b, Code: []byte{}, Storage: []api.Slot{}}})
	commit(t, s, m, 3, nil)
	commit(t, s, m, 4, []api.Account{full})
	commit(t, s, m, 0, []api.Account{{Address: b}})
	check(t, s, m)
	for v, want := range []struct {
		there bool
		value api.Word
		all   int
	}{{false, api.Word{}, 0}, {true, api.Word{2}, 2}, {true, api.Word{}, 1}, {true, api.Word{}, 0}, {true, api.Word{}, 0}, {true, api.Word{2}, 1}, {false, api.Word{}, 0}} {
		x, ok := s.Find(v, a)
		if ok != want.there || store.Empty(x) != (want.value == api.Word{}) {
			t.Errorf("Find(%d): %v, %v", v, x, ok)
		}
		if w := s.Slot(v, a, api.Word{1}); w != want.value {
			t.Errorf("Slot(%d): %v", v, w)
		}
		if l := s.All(v); len(l) != want.all {
			t.Errorf("All(%d): %v", v, l)
		}
	}
	if x, ok := s.Find(6, b); !ok || x.Address != b {
		t.Errorf("an account that never was more than empty: %v, %v", x, ok)
	}
}

// What an account has no more isn't left from the one ahead of it.
func TestP131Whole(t *testing.T) {
	s, m := store.New(), newModel()
	a := pool()[3]
	commit(t, s, m, 0, []api.Account{{Address: a, Nonce: 1, Balance: api.Word{2}, Code: []byte{3}, Storage: slots(keys()[:8]...)}})
	commit(t, s, m, 1, []api.Account{{Address: a, Nonce: 1}})
	commit(t, s, m, 1, []api.Account{{Address: a, Balance: api.Word{2}}})
	commit(t, s, m, 1, []api.Account{{Address: a, Code: []byte{3}}})
	for i := range keys() {
		commit(t, s, m, 1, []api.Account{{Address: a, Storage: slots(keys()[i : i+1]...)}})
	}
	check(t, s, m)
}

func TestP131AllRises(t *testing.T) {
	r := rand.New(rand.NewPCG(13, 3))
	s, m := store.New(), newModel()
	parent := 0
	for i := range 30 {
		var l []api.Account
		for j := range 100 {
			var a api.Address
			a[r.IntN(20)], a[r.IntN(20)] = byte(r.IntN(256)), byte(r.IntN(256))
			l = append(l, rich(a, uint64(i+j)))
		}
		parent = commit(t, s, m, parent, l)
		checkAll(t, s, m, parent)
	}
	l := s.All(parent)
	if len(l) < 2000 {
		t.Errorf("only %d accounts", len(l))
	}
	for i := range l[1:] {
		if bytes.Compare(l[i].Address[:], l[i+1].Address[:]) >= 0 {
			t.Fatalf("%x ahead of %x", l[i].Address, l[i+1].Address)
		}
	}
}

func TestP131Full(t *testing.T) {
	s := store.New()
	for v := 1; v < most; v++ {
		var l []api.Account
		if v == 1 || v%1000 == 0 {
			l = []api.Account{rich(at(1), uint64(v))}
		}
		if v == 1 {
			l = append(l, rich(at(3), 3))
		}
		if got, err := s.Commit(v-1, l); got != v || err != 0 {
			t.Fatalf("version %d: %d, %d", v, got, err)
		}
	}
	for range 3 {
		for _, row := range []struct {
			parent int
			x      api.Account
			want   api.Errno
		}{
			{0, rich(at(1), 1), 11}, {most - 1, rich(at(1), 1), 11}, {most / 2, rich(at(2), 1), 11},
			{most, rich(at(1), 1), 12}, {-1, rich(at(1), 1), 12}, {0, api.Account{Storage: []api.Slot{{}}}, 1},
		} {
			if v, err := s.Commit(row.parent, []api.Account{row.x}); v != 0 || err != row.want {
				t.Errorf("Commit(%d) on a full store: %d, %d", row.parent, v, err)
			}
		}
		if v, err := s.Commit(0, nil); v != 0 || err != 11 {
			t.Errorf("Commit of nothing on a full store: %d, %d", v, err)
		}
	}
	if s.Len() != most {
		t.Errorf("Len: %d", s.Len())
	}
	for _, v := range []int{1, 2, 999, 1000, 1001, 1999, 500000, 500001, most - 2, most - 1} {
		want := max(1, v/1000*1000)
		if x, ok := s.Find(v, at(1)); !ok || x.Balance != (api.Word{uint64(want)}) {
			t.Errorf("Find(%d): %v, %v", v, x, ok)
		}
		if p, ok := s.Parent(v); p != v-1 || !ok {
			t.Errorf("Parent(%d): %d, %v", v, p, ok)
		}
	}
	// Were each version on the way up gone through, this would take hours.
	for v := 1; v < most; v++ {
		if x, ok := s.Find(v, at(3)); !ok || x.Balance != (api.Word{3}) {
			t.Fatalf("Find(%d) of what was set in version 1: %v, %v", v, x, ok)
		}
	}
	if x, ok := s.Find(most-1, at(2)); ok || !same(x, api.Account{}) {
		t.Errorf("what was refused is found: %v", x)
	}
}

// Each version sets one address of its own: all below find it, none above.
func TestP131Deep(t *testing.T) {
	const depth = 700
	s := store.New()
	for v := 1; v <= depth; v++ {
		if got, err := s.Commit(v-1, []api.Account{rich(at(v), uint64(v)), rich(at(0), uint64(v))}); got != v || err != 0 {
			t.Fatalf("version %d: %d, %d", v, got, err)
		}
	}
	for v := range depth + 1 {
		for n := 1; n <= depth; n++ {
			x, ok := s.Find(v, at(n))
			if ok != (n <= v) || ok && x.Balance != (api.Word{uint64(n)}) {
				t.Fatalf("Find(%d, %d): %v, %v", v, n, x, ok)
			}
		}
		if x, ok := s.Find(v, at(0)); ok != (v > 0) || x.Balance != (api.Word{uint64(v)}) {
			t.Fatalf("Find(%d, 0): %v, %v", v, x, ok)
		}
		if l := s.All(v); v > 0 && len(l) != v+1 || v == 0 && len(l) != 0 {
			t.Fatalf("All(%d): %d", v, len(l))
		}
	}
}

// Rows that part and go on apart, their versions' numbers one between the
// other's.
func TestP131RowsBesideEachOther(t *testing.T) {
	r := rand.New(rand.NewPCG(13, 4))
	for _, many := range []int{2, 3, 7} {
		s, m := store.New(), newModel()
		ends := make([]int, many)
		for range 600 {
			i := r.IntN(many)
			l := drawnList(r)
			if i == 0 && len(l) > 0 { // one that sets little
				l = l[:r.IntN(2)]
			}
			parent := ends[i]
			if v, _ := s.Commit(parent, l); v > 0 {
				ends[i] = v
			}
			m.commit(parent, l)
		}
		check(t, s, m)
	}
}

func TestP132NeverChanged(t *testing.T) {
	r := rand.New(rand.NewPCG(13, 5))
	s := store.New()
	texts := []string{told(s, 0)}
	for len(texts) < 120 {
		parent := r.IntN(len(texts))
		if r.IntN(2) == 0 {
			parent = len(texts) - 1
		}
		if v, err := s.Commit(parent, drawnList(r)); err == 0 {
			texts = append(texts, told(s, v))
		}
		for v, text := range texts {
			if now := told(s, v); now != text {
				t.Fatalf("version %d was\n%s\nand is, behind %d,\n%s", v, text, len(texts)-1, now)
			}
		}
	}
}

func TestP132NothingSet(t *testing.T) {
	s, m := store.New(), newModel()
	commit(t, s, m, 0, []api.Account{{Address: pool()[0], Nonce: 3, Code: []byte{1, 2}, Storage: slots(api.Word{1}, api.Word{0, 1})}, {Address: pool()[1]}})
	for _, parent := range []int{0, 1} {
		want := fmt.Sprint(s.All(parent))
		for _, l := range [][]api.Account{nil, {}, make([]api.Account, 0, 5)} {
			v := commit(t, s, m, parent, l)
			if got := fmt.Sprint(s.All(v)); got != want {
				t.Errorf("version %d has %s, its parent %s", v, got, want)
			}
			v = commit(t, s, m, v, l)
			if got := fmt.Sprint(s.All(v)); got != want {
				t.Errorf("version %d has %s, its parent's parent %s", v, got, want)
			}
		}
	}
	check(t, s, m)
}

// Many versions of one parent, each of which sets what the others set, too,
// and one account of its own, with children that set nothing.
func TestP133Apart(t *testing.T) {
	const many = 400
	s := store.New()
	parent, _ := s.Commit(0, []api.Account{rich(at(0), 9999), rich(at(1000), 1)})
	parent, _ = s.Commit(parent, nil)
	first := s.Len()
	for i := range many {
		l := []api.Account{rich(at(0), uint64(i)), rich(at(i+1), 7)}
		if i%2 == 1 {
			l = l[1:]
		}
		if v, err := s.Commit(parent, l); v != first+i || err != 0 {
			t.Fatalf("child %d: %d, %d", i, v, err)
		}
	}
	for i := range many {
		s.Commit(first+many-1-i, nil)
	}
	for i := range many {
		for _, v := range []int{first + i, first + 2*many - 1 - i} {
			shared := uint64(i)
			if i%2 == 1 {
				shared = 9999
			}
			if x, ok := s.Find(v, at(0)); !ok || x.Balance != (api.Word{shared}) {
				t.Fatalf("Find(%d, 0): %v, %v, want %d", v, x, ok, shared)
			}
			for n := 1; n <= many; n++ {
				if x, ok := s.Find(v, at(n)); ok != (n == i+1) {
					t.Fatalf("Find(%d, %d): %v, %v", v, n, x, ok)
				}
			}
			if l := s.All(v); i > 0 && len(l) != 3 || i == 0 && len(l) != 2 {
				t.Fatalf("All(%d): %v", v, l)
			}
		}
	}
	if l := s.All(parent); len(l) != 2 || l[0].Balance != (api.Word{9999}) {
		t.Errorf("the parent has %v", l)
	}
}

func TestNil(t *testing.T) {
	var s *store.Store
	for _, v := range []int{0, 1, -1, math.MinInt, math.MaxInt} {
		for _, l := range [][]api.Account{nil, {rich(at(1), 1)}, {{Storage: []api.Slot{{}}}}} {
			if n, err := s.Commit(v, l); n != 0 || err != 1 {
				t.Errorf("Commit(%d, %v): %d, %d", v, l, n, err)
			}
		}
		if x, ok := s.Find(v, at(1)); ok || !same(x, api.Account{}) {
			t.Errorf("Find(%d): %v, %v", v, x, ok)
		}
		if w := s.Slot(v, at(1), api.Word{1}); w != (api.Word{}) {
			t.Errorf("Slot(%d): %v", v, w)
		}
		if l := s.All(v); len(l) != 0 {
			t.Errorf("All(%d): %v", v, l)
		}
		if p, ok := s.Parent(v); p != 0 || ok {
			t.Errorf("Parent(%d): %d, %v", v, p, ok)
		}
	}
	if n := s.Len(); n != 0 {
		t.Errorf("Len: %d", n)
	}
}

// Two stores know nothing of each other.
func TestTwoStores(t *testing.T) {
	s, m := store.New(), newModel()
	other, empty := store.New(), newModel()
	commit(t, s, m, 0, []api.Account{rich(pool()[0], 1)})
	check(t, other, empty)
	commit(t, other, empty, 0, []api.Account{rich(pool()[1], 2)})
	check(t, s, m)
	check(t, other, empty)
}

func TestExamples(t *testing.T) {
	s := store.New()
	if v, err := s.Commit(0, []api.Account{rich(at(1), 5)}); v != 1 || err != api.OK {
		t.Errorf("the first one: %d, %d", v, err)
	}
	if v, err := s.Commit(0, []api.Account{rich(at(1), 7)}); v != 2 || err != api.OK {
		t.Errorf("the second one: %d, %d", v, err)
	}
	if x, ok := s.Find(1, at(1)); !ok || !same(x, rich(at(1), 5)) {
		t.Errorf("Find(1, 1): %v, %v", x, ok)
	}
	if x, ok := s.Find(2, at(1)); !ok || !same(x, rich(at(1), 7)) {
		t.Errorf("Find(2, 1): %v, %v", x, ok)
	}
	if x, ok := s.Find(0, at(1)); ok || !same(x, api.Account{}) {
		t.Errorf("Find(0, 1): %v, %v", x, ok)
	}
}
