package outbox

import (
	"porter/api"
	"porter/cache"
)

// Seen is the keys that came in last.
type Seen[K comparable] struct {
	times *cache.Cache[K, int] // how often each came in
}

// NewSeen: none yet; so many are remembered.
func NewSeen[K comparable](size int) (*Seen[K], api.Errno) {
	times, e := cache.New[K, int](size)
	if e != api.OK {
		return nil, e
	}
	return &Seen[K]{times}, api.OK
}

// First: a key comes in: is it for the first time, as far as is remembered?
func (s *Seen[K]) First(key K) bool {
	times, seen := s.times.Get(key)
	s.times.Put(key, times+1)
	return !seen
}

// Times: how often a key came in, as far as is remembered.
func (s *Seen[K]) Times(key K) int {
	times, _ := s.times.Get(key)
	return times
}
