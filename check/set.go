package check

// set is things, each once.
type set[T comparable] map[T]struct{}

// has: is a thing in it?
func (s set[T]) has(thing T) bool {
	_, found := s[thing]
	return found
}

// add: a thing is in it; is it new there?
func (s set[T]) add(thing T) bool {
	size := len(s)
	s[thing] = struct{}{}
	return len(s) > size
}
