package store

import "porter/api"

// The indexes, as an entry counts them.
const (
	spotByObject = iota
	spotByPlace
	spotByUser
	spots
)

// index finds entries by what a key says of their tuples. Each entry knows its spot in its list, so that it is taken out without a search; the lists have no order therefore.
type index[K comparable] struct {
	number int
	key    func(api.Tuple) K
	lists  map[K][]*entry
}

// newIndex: an index without entries.
func newIndex[K comparable](number int, key func(api.Tuple) K) index[K] {
	return index[K]{number: number, key: key, lists: map[K][]*entry{}}
}

// list: the entries that have a key.
func (x index[K]) list(k K) []*entry { return x.lists[k] }

// add: an entry is found too.
func (x index[K]) add(e *entry) {
	k := x.key(e.tuple)
	e.spots[x.number] = len(x.lists[k])
	x.lists[k] = append(x.lists[k], e)
}

// remove: an entry is found no more; the last one of its list takes its spot.
func (x index[K]) remove(e *entry) {
	k := x.key(e.tuple)
	list, spot := x.lists[k], e.spots[x.number]
	end := len(list) - 1
	list[spot] = list[end]
	list[spot].spots[x.number] = spot
	list[end] = nil
	x.lists[k] = list[:end]
	if end == 0 {
		delete(x.lists, k)
	}
}
