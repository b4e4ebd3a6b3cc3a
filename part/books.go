package part

import (
	"cmp"
	"maps"
	"slices"

	"porter/api"
)

// books is what was promised, what is locked for that, and what was decided.
type books struct {
	promises  map[int64]promise // those that aren't decided
	locks     map[api.Tuple]int64
	decisions map[int64]decision
	made      int // how many promises there were
}

// promise is the record of a promise, and how many were made ahead of it.
type promise struct {
	record api.Msg
	ahead  int
}

// decision is what became of a promise; without a commit the revision is 0.
type decision struct {
	commit bool
	rev    int64
}

// newBooks: nothing is promised.
func newBooks() books {
	return books{promises: map[int64]promise{}, locks: map[api.Tuple]int64{}, decisions: map[int64]decision{}}
}

// Pending: what is promised and not decided, in the order of the promises.
func (b *books) Pending() []api.Msg {
	var records []api.Msg
	for _, p := range slices.SortedFunc(maps.Values(b.promises), func(x, y promise) int { return cmp.Compare(x.ahead, y.ahead) }) {
		records = append(records, recordOf(p.record))
	}
	return records
}

// Locked: the transaction for which a tuple is locked; 0: none.
func (b *books) Locked(t api.Tuple) int64 { return b.locks[t] }

// Decided: is it decided what becomes of a transaction that was promised?
func (b *books) Decided(id int64) bool {
	_, found := b.decisions[id]
	return found
}

// promised: is a transaction promised, and not decided?
func (b *books) promised(id int64) bool {
	_, found := b.promises[id]
	return found
}

// promise: a transaction is promised, all its tuples are locked.
func (b *books) promise(m api.Msg) {
	b.promises[m.Id] = promise{recordOf(m), b.made}
	b.made++
	for _, t := range tuplesOf(m) {
		b.locks[t] = m.Id
	}
}

// settle: a promise is decided, its tuples aren't locked any more; its record is answered.
func (b *books) settle(id int64, d decision) api.Msg {
	record := b.promises[id].record
	for _, t := range tuplesOf(record) {
		delete(b.locks, t)
	}
	delete(b.promises, id)
	b.decisions[id] = d
	return record
}

// recordOf: the record of a message's promise, in new memory.
func recordOf(m api.Msg) api.Msg {
	return api.Msg{Kind: KPrepare, From: m.From, Id: m.Id, Muts: slices.Clone(m.Muts), Pre: slices.Clone(m.Pre)}
}

// tuplesOf: the tuples of a message's mutations, then those of its conditions.
func tuplesOf(m api.Msg) []api.Tuple {
	tuples := make([]api.Tuple, 0, len(m.Muts)+len(m.Pre))
	for _, x := range m.Muts {
		tuples = append(tuples, x.Tuple)
	}
	for _, x := range m.Pre {
		tuples = append(tuples, x.Tuple)
	}
	return tuples
}

// repeats: do two mutations have one tuple?
func repeats(muts []api.Mutation) bool {
	ahead := map[api.Tuple]struct{}{}
	for _, m := range muts {
		if _, found := ahead[m.Tuple]; found {
			return true
		}
		ahead[m.Tuple] = struct{}{}
	}
	return false
}
