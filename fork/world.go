package fork

import (
	"smithy/api"
	"smithy/state"
	"smithy/store"
)

// world is a version's accounts, and below them a cache's.
type world struct {
	store   *store.Store
	version int
	cache   *Cache
}

// Over is the world of a version, and a cache below it.
func Over(s *store.Store, v int, c *Cache) state.World {
	return world{store: s, version: v, cache: c}
}

// Account is what a version has set, else what the cache knows. The cache is
// asked each time, for it may have come to know more since.
func (w world) Account(a api.Address) (api.Account, bool) {
	if x, ok := w.store.Find(w.version, a); ok {
		return x, true
	}
	return w.cache.Account(a)
}
