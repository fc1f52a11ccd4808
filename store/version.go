package store

import (
	"slices"

	"smithy/api"
)

// version is what was set in a version, and the way up from it. Version 0 is
// its own parent here, so that each way up ends there.
type version struct {
	parent   int
	far      int // the parent, or one farther up: a leap on long ways
	depth    int // how many are above it
	accounts map[api.Address]*api.Account
}

// add makes a version of right accounts, and answers its number.
func (s *Store) add(parent int, l []api.Account) int {
	v := len(s.versions)
	accounts := make(map[api.Address]*api.Account, len(l))
	for _, x := range l {
		kept := copied(x)
		accounts[x.Address] = &kept
	}
	for a := range accounts {
		s.set[a] = append(s.set[a], v)
	}
	s.versions = append(s.versions, version{
		parent:   parent,
		far:      s.farAbove(parent),
		depth:    s.versions[parent].depth + 1,
		accounts: accounts,
	})
	return v
}

// farAbove is where a parent's children leap to. Behind two leaps of the same
// length it is the end of both, else the parent: so each version has one leap
// only, and the way up through n versions still takes no more than some log n.
func (s *Store) farAbove(parent int) int {
	p := s.versions[parent]
	q := s.versions[p.far]
	if p.depth-q.depth == q.depth-s.versions[q.far].depth {
		return q.far
	}
	return parent
}

// up is v, or the first one above it, that is numbered u at most: numbers fall
// on the way up.
func (s *Store) up(v, u int) int {
	for v > u {
		if far := s.versions[v].far; far >= u {
			v = far
		} else {
			v = s.versions[v].parent
		}
	}
	return v
}

// last is the account that was set last in v or above it; nil if none was.
func (s *Store) last(v int, a api.Address) *api.Account {
	if !s.has(v) {
		return nil
	}
	set := s.set[a]
	for {
		n, _ := slices.BinarySearch(set, v+1)
		if n == 0 {
			return nil
		}
		u := set[n-1]
		if v = s.up(v, u); v == u {
			return s.versions[u].accounts[a]
		}
		// u isn't above v, which now is the first one up that is ahead of u.
		set = set[:n-1]
	}
}
