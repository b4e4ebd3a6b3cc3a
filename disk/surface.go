package disk

// surface is what is written on a disk, of which the first bytes are durable.
type surface struct {
	bytes   []byte
	durable int
}

// Size: how many bytes there are.
func (s *surface) Size() int { return len(s.bytes) }

// Durable: how many of them are durable.
func (s *surface) Durable() int { return s.durable }

// Bytes: all bytes, in new memory.
func (s *surface) Bytes() []byte { return append([]byte(nil), s.bytes...) }

// cut: only so many of the first bytes are left, all of them durable.
func (s *surface) cut(size int) {
	s.bytes = s.bytes[:size]
	s.durable = size
}
