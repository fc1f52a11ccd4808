package mem_test

import (
	"fmt"
	"math"
	"math/rand/v2"
	"slices"
	"testing"

	"smithy/api"
	"smithy/mem"
)

const full = 1024 // words of a stack

// list is a stack as the chapter says: a plain list, the lowest word first.
type list []api.Word

func (l *list) push(a api.Word) bool {
	if len(*l) == full {
		return false
	}
	*l = append(*l, a)
	return true
}

func (l *list) pop() (api.Word, bool) {
	if len(*l) == 0 {
		return api.Word{}, false
	}
	top := (*l)[len(*l)-1]
	*l = (*l)[:len(*l)-1]
	return top, true
}

// nth is the place of the n-th word from the top, and whether there is one.
func (l list) nth(n int) (int, bool) {
	for place, count := len(l)-1, 1; place >= 0; place, count = place-1, count+1 {
		if count == n {
			return place, true
		}
	}
	return 0, false
}

func (l *list) dup(n int) bool {
	place, ok := l.nth(n)
	return ok && l.push((*l)[place])
}

func (l list) swap(n int) bool {
	if n < 1 || n == math.MaxInt {
		return false
	}
	place, ok := l.nth(n + 1)
	if ok {
		l[len(l)-1], l[place] = l[place], l[len(l)-1]
	}
	return ok
}

// named is a word that tells its place.
func named(i int) api.Word { return api.Word{uint64(i + 1), uint64(i), 7, uint64(i) << 40} }

// stacked is a stack of n words, and as a list.
func stacked(t *testing.T, n int) (*mem.Stack, list) {
	t.Helper()
	s, l := mem.NewStack(), list{}
	for i := range n {
		if !s.Push(named(i)) {
			t.Fatalf("Push of word %d", i)
		}
		l.push(named(i))
	}
	checkStack(t, s, l, "pushed")
	return s, l
}

func checkStack(t *testing.T, s *mem.Stack, want list, row string) {
	t.Helper()
	if got := s.All(); s.Len() != len(want) || !slices.Equal(got, want) {
		t.Fatalf("%s: %d words, %x, want %d, %x", row, s.Len(), got, len(want), []api.Word(want))
	}
}

// counts are ints of interest for a stack of so many words.
func counts(n int) []int {
	return []int{
		math.MinInt, math.MinInt + 1, math.MinInt32, -full, -2, -1, 0, 1, 2, 3, 16, 17,
		n - 2, n - 1, n, n + 1, n + 2, full - 2, full - 1, full, full + 1, math.MaxInt32, math.MaxInt32 + 1, math.MaxInt - 1, math.MaxInt,
	}
}

func TestP101PushAndPop(t *testing.T) {
	s, l := stacked(t, full)
	for range 3 {
		if s.Push(api.Word{1}) {
			t.Error("a word beyond 1024")
		}
		checkStack(t, s, l, "one more is refused")
	}
	for i := full - 1; i >= 0; i-- {
		if got, ok := s.Pop(); got != named(i) || !ok || s.Len() != i {
			t.Fatalf("Pop of word %d: %x, %t, %d left", i, got, ok, s.Len())
		}
	}
	for range 3 {
		if got, ok := s.Pop(); got != (api.Word{}) || ok {
			t.Errorf("Pop of none: %x, %t", got, ok)
		}
		checkStack(t, s, nil, "none left")
	}
	if !s.Push(api.Word{9}) {
		t.Error("Push behind all was popped")
	}
	checkStack(t, s, list{{9}}, "begun again")
}

func TestP101PopsAWordOfNoughts(t *testing.T) {
	s := mem.NewStack()
	s.Push(api.Word{5})
	s.Push(api.Word{})
	if got, ok := s.Pop(); got != (api.Word{}) || !ok {
		t.Errorf("Pop = %x, %t", got, ok)
	}
	checkStack(t, s, list{{5}}, "one left")
}

func TestP101RoomAgain(t *testing.T) {
	s, l := stacked(t, full)
	s.Pop()
	l.pop()
	if !s.Dup(full - 1) {
		t.Error("Dup with one place free")
	}
	l.dup(full - 1)
	checkStack(t, s, l, "full by Dup")
	if s.Dup(1) || s.Push(api.Word{}) {
		t.Error("one more")
	}
	checkStack(t, s, l, "full still")
}

func TestP101DupAndSwap(t *testing.T) {
	for _, size := range []int{0, 1, 2, 3, 17, full - 1, full} {
		for _, n := range counts(size) {
			s, l := stacked(t, size)
			if got, want := s.Dup(n), l.dup(n); got != want {
				t.Errorf("%d words: Dup(%d) = %t", size, n, got)
			}
			checkStack(t, s, l, fmt.Sprintf("%d words: Dup(%d)", size, n))
			s, l = stacked(t, size)
			if got, want := s.Swap(n), l.swap(n); got != want {
				t.Errorf("%d words: Swap(%d) = %t", size, n, got)
			}
			checkStack(t, s, l, fmt.Sprintf("%d words: Swap(%d)", size, n))
		}
	}
}

func TestP101DupAndSwapOfEach(t *testing.T) {
	for n := range full + 3 {
		s, l := stacked(t, full-1)
		if got, want := s.Swap(n), n >= 1 && n <= full-2; got != want {
			t.Errorf("Swap(%d) = %t", n, got)
		}
		l.swap(n)
		checkStack(t, s, l, fmt.Sprintf("Swap(%d)", n))
		if got, want := s.Dup(n), n >= 1 && n <= full-1; got != want {
			t.Errorf("Dup(%d) = %t", n, got)
		}
		l.dup(n)
		checkStack(t, s, l, fmt.Sprintf("Dup(%d)", n))
	}
}

func TestP101SmallStacks(t *testing.T) {
	s := mem.NewStack()
	checkStack(t, s, nil, "empty")
	if s.Dup(1) || s.Swap(1) || s.Dup(0) || s.Swap(0) {
		t.Error("of none")
	}
	s.Push(api.Word{1})
	if s.Swap(1) || s.Dup(2) || s.Swap(0) || !s.Dup(1) {
		t.Error("of one")
	}
	checkStack(t, s, list{{1}, {1}}, "twice")
	s.Push(api.Word{2})
	if !s.Swap(2) || s.Swap(3) || !s.Swap(1) {
		t.Error("of three")
	}
	checkStack(t, s, list{{2}, {1}, {1}}, "changed places")
	if !s.Swap(2) || !s.Swap(2) {
		t.Error("there and back")
	}
	checkStack(t, s, list{{2}, {1}, {1}}, "there and back")
}

func TestP101RowsOfStackCalls(t *testing.T) {
	for seed := range 400 {
		r := rand.New(rand.NewPCG(uint64(seed), 4))
		s, l := stacked(t, []int{0, 0, 1, 2, 5, full - 3, full - 1, full}[seed%8])
		for step := range 120 {
			n := r.IntN(len(l)+4) - 1
			if r.IntN(8) == 0 {
				n = counts(len(l))[r.IntN(len(counts(0)))]
			}
			row := fmt.Sprintf("row %d, call %d", seed, step)
			switch r.IntN(5) {
			case 0, 1:
				a := api.Word{r.Uint64(), r.Uint64(), r.Uint64(), r.Uint64()}
				if got, want := s.Push(a), l.push(a); got != want {
					t.Fatalf("%s: Push = %t", row, got)
				}
			case 2:
				a, ok := s.Pop()
				if b, want := l.pop(); a != b || ok != want {
					t.Fatalf("%s: Pop = %x, %t, want %x, %t", row, a, ok, b, want)
				}
			case 3:
				if got, want := s.Dup(n), l.dup(n); got != want {
					t.Fatalf("%s: Dup(%d) = %t", row, n, got)
				}
			case 4:
				if got, want := s.Swap(n), l.swap(n); got != want {
					t.Fatalf("%s: Swap(%d) = %t", row, n, got)
				}
			}
			checkStack(t, s, l, row)
		}
	}
}

func TestAllIsNobodyElses(t *testing.T) {
	for _, size := range []int{0, 1, 2, 3, 5, 100, full - 1, full} {
		s, l := stacked(t, size)
		first, second := s.All(), s.All()
		room := second[:cap(second)]
		for i := range room {
			room[i] = api.Word{1, 2, 3, 4}
		}
		checkStack(t, s, l, "an answer is changed")
		if !slices.Equal(first, l) {
			t.Errorf("%d words: an answer changes with another one", size)
		}
		_ = append(first, api.Word{5})
		s.Push(named(size))
		grown := slices.Clone(l)
		grown.push(named(size))
		checkStack(t, s, grown, "an answer is grown")
		s.Swap(1)
		for range 2 {
			s.Pop()
		}
		s.Push(api.Word{9})
		if !slices.Equal(first, l) {
			t.Errorf("%d words: an answer changes with the stack", size)
		}
	}
}

func TestTwoStacks(t *testing.T) {
	a, l := stacked(t, 3)
	b := mem.NewStack()
	checkStack(t, b, nil, "another one")
	b.Push(api.Word{1})
	checkStack(t, a, l, "the first one")
	checkStack(t, b, list{{1}}, "another one")
}

func TestP101NilStack(t *testing.T) {
	var s *mem.Stack
	for _, n := range counts(0) {
		if s.Dup(n) || s.Swap(n) {
			t.Errorf("Dup or Swap of %d", n)
		}
	}
	if a, ok := s.Pop(); a != (api.Word{}) || ok || s.Push(api.Word{1}) || s.Len() != 0 || len(s.All()) != 0 {
		t.Error("of a nil stack")
	}
}
