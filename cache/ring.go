package cache

// entry is a key with its value, between the one that was used next and the one that was used ahead of it.
type entry[K comparable, V any] struct {
	key          K
	value        V
	newer, older *entry[K, V]
}

// ring is entries in the order in which they were used. They are closed to a ring by a knot, which is no entry, so that each has neighbours.
type ring[K comparable, V any] struct {
	knot  entry[K, V]
	count int
}

// tie: the ring has no entries.
func (r *ring[K, V]) tie() { r.knot.newer, r.knot.older = &r.knot, &r.knot }

// oldest: the entry that wasn't used for longest, of a ring that has some.
func (r *ring[K, V]) oldest() *entry[K, V] { return r.knot.newer }

// add: an entry that isn't in the ring is, as the one that was used last.
func (r *ring[K, V]) add(e *entry[K, V]) {
	e.newer, e.older = &r.knot, r.knot.older
	e.newer.older, e.older.newer = e, e
	r.count++
}

// remove: an entry isn't in the ring any more, if it was.
func (r *ring[K, V]) remove(e *entry[K, V]) {
	if e.newer == nil {
		return
	}
	e.newer.older, e.older.newer = e.older, e.newer
	e.newer, e.older = nil, nil
	r.count--
}

// use: an entry of the ring was used last.
func (r *ring[K, V]) use(e *entry[K, V]) {
	r.remove(e)
	r.add(e)
}

// entries: all, the one that was used last first.
func (r *ring[K, V]) entries() []*entry[K, V] {
	list := make([]*entry[K, V], 0, r.count)
	for e := r.knot.older; e != &r.knot; e = e.older {
		list = append(list, e)
	}
	return list
}
