package shard

import (
	"slices"

	"porter/api"
	"porter/ring"
)

// noSlot: isn't there such a slot?
func noSlot(slot int) bool { return slot < 0 || slot >= api.Slots }

// hindrance: why what is new can't be promised, as far as tables and fences go.
func (s *Shard) hindrance(m api.Msg) api.Errno {
	if m.Epoch != s.table.Epoch {
		return api.ErrEpoch
	}
	if touches(m, func(slot int) bool { return !s.Serves(slot) }) {
		return api.ErrFenced
	}
	return api.OK
}

// promised: is a transaction promised, and not decided?
func (s *Shard) promised(id int64) bool {
	return slices.ContainsFunc(s.Pending(), func(m api.Msg) bool { return m.Id == id })
}

// touches: has a message a mutation or a condition of an object in one of the slots that are meant?
func touches(m api.Msg, meant func(slot int) bool) bool {
	return slices.ContainsFunc(m.Muts, func(x api.Mutation) bool { return meant(ring.Slot(x.Tuple.Object)) }) ||
		slices.ContainsFunc(m.Pre, func(x api.Condition) bool { return meant(ring.Slot(x.Tuple.Object)) })
}

// rowsOf: all rows in a slot, in order.
func (s *Shard) rowsOf(slot int) []api.Row {
	return slices.DeleteFunc(s.Rows(), func(r api.Row) bool { return ring.Slot(r.Tuple.Object) != slot })
}

// turn: another table is known: the rows of what the node doesn't own go, those that came in until its version are there.
func (s *Shard) turn(version int64, t ring.Table) {
	var cleared [api.Slots]bool
	var rows []api.Row
	for slot, owner := range t.Owners {
		own, came := owner == s.node, s.arrivals[slot]
		due := came.move > s.version && came.move <= version
		cleared[slot] = !own || due
		if own && due {
			rows = append(rows, came.rows...)
		}
		if came.move <= version {
			s.arrivals[slot] = arrival{}
		}
	}
	s.Drop(s.objectsOf(cleared)...)
	// Nothing can be wrong with them: so it was seen when they came in, and their slots are empty now.
	s.Load(rows...)
	s.table, s.version = t, version
}

// objectsOf: the objects of all rows in some slots.
func (s *Shard) objectsOf(slots [api.Slots]bool) []string {
	var objects []string
	for _, r := range s.Rows() {
		if slots[ring.Slot(r.Tuple.Object)] {
			objects = append(objects, r.Tuple.Object)
		}
	}
	return slices.Compact(objects)
}
