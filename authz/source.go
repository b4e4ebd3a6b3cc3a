package authz

import (
	"porter/api"
	"porter/cache"
)

// place is an object with a relation: what tuples alone tell of it is asked for as a whole.
type place struct {
	object, relation string
}

// key is a place at a closed revision: the users there never change any more.
type key struct {
	place
	rev int64
}

// node is what a node keeps of what it was told. Behind a crash it is another one.
type node struct {
	id   int
	kept *cache.Cache[key, []string]
}

func newNode(id int) *node {
	kept, _ := cache.New[key, []string](CacheSize)
	return &node{id, kept}
}

// fact is a place with its users, as far as they were told.
type fact struct {
	place
	users []string
	call  int // none: it wasn't asked for
	again int // how often it was asked for once more
}

// Users: a question is a source of what it was told. A place of which it was told nothing has no users as yet; it is open then, and the question can't be answered.
func (q *question) Users(object, relation string) ([]string, api.Errno) {
	at := place{object, relation}
	f, found := q.facts[at]
	if !found {
		f = &fact{place: at, call: none}
		q.facts[at] = f
		if f.users, found = q.node.kept.Get(key{at, q.rev}); !found {
			q.open = append(q.open, f)
		}
	}
	return f.users, api.OK
}
