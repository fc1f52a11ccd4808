package mem

import (
	"slices"

	"smithy/api"
)

// Stack is a frame's words, the top one last.
type Stack struct{ words []api.Word }

// NewStack is an empty one.
func NewStack() *Stack { return &Stack{} }

// Len is how many words it has.
func (s *Stack) Len() int {
	if s == nil {
		return 0
	}
	return len(s.words)
}

// Push puts a word on top.
func (s *Stack) Push(a api.Word) bool {
	if s == nil || len(s.words) >= api.MaxStack {
		return false
	}
	s.words = append(s.words, a)
	return true
}

// Pop takes the top off.
func (s *Stack) Pop() (api.Word, bool) {
	if s.Len() == 0 {
		return api.Word{}, false
	}
	last := len(s.words) - 1
	top := s.words[last]
	s.words = s.words[:last]
	return top, true
}

// Dup pushes a word again.
func (s *Stack) Dup(n int) bool {
	if n < 1 || n > s.Len() {
		return false
	}
	return s.Push(s.words[len(s.words)-n])
}

// Swap changes two words' places.
func (s *Stack) Swap(n int) bool {
	// Held against the length, as n and one may go round.
	if n < 1 || n >= s.Len() {
		return false
	}
	top := len(s.words) - 1
	s.words[top], s.words[top-n] = s.words[top-n], s.words[top]
	return true
}

// All are all words.
func (s *Stack) All() []api.Word {
	if s == nil {
		return nil
	}
	return slices.Clone(s.words)
}
