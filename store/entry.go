package store

import (
	"slices"
	"sort"

	"porter/api"
)

// entry is a tuple with its spans, of which each begins behind the end of the one ahead of it.
type entry struct {
	tuple api.Tuple
	spans []span
	spots [spots]int // where it stands in its list of each index
}

// span is from when on a tuple was there, and up to when, without that (0: it still is).
type span struct {
	since, until int64
}

// right: may a row be so?
func (x span) right() bool {
	if x.since < 1 || x.since > api.MaxRev {
		return false
	}
	return x.until == 0 || x.until > x.since && x.until <= api.MaxRev
}

// behind: does it begin behind the end of another one?
func (x span) behind(other span) bool {
	return other.until != 0 && other.until < x.since
}

// over: has it ended at a revision, or ahead of it?
func (x span) over(rev int64) bool {
	return x.until != 0 && x.until <= rev
}

// open: is the tuple still there?
func (e *entry) open() bool { return e.last().until == 0 }

// latest: the greatest revision in a span.
func (e *entry) latest() int64 { return max(e.last().since, e.last().until) }

// last: the last span, of which an entry that is found has one.
func (e *entry) last() span { return e.spans[len(e.spans)-1] }

// end: the tuple is there up to a revision.
func (e *entry) end(rev int64) { e.spans[len(e.spans)-1].until = rev }

// thereAt: was the tuple there at a revision?
func (e *entry) thereAt(rev int64) bool {
	// Of the spans that have begun all but the last one have ended.
	begun := sort.Search(len(e.spans), func(i int) bool { return e.spans[i].since > rev })
	return begun > 0 && !e.spans[begun-1].over(rev)
}

// collect: the spans that are over at a revision are gone.
func (e *entry) collect(rev int64) {
	e.spans = slices.DeleteFunc(e.spans, func(x span) bool { return x.over(rev) })
}
