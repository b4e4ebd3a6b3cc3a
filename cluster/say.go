package cluster

import (
	"porter/api"
	"porter/code"
)

// What the nodes say to one another: each question, and behind it its answer. Only questions are said again, and only until they are answered.
const (
	sayPrepare   = 1 + iota // to a share: promise Muts and Pre for Id, by the table of Epoch
	sayVote                 // a verdict
	sayIssue                // to the oracle: which revision has Id?
	sayIssued               // a verdict, Rev
	sayDecide               // to a share: Id is committed at Rev
	sayApplied              // it is made
	sayAsk                  // to a coordinator: what has become of Id?
	sayFate                 // Slot: its state, Rev
	sayClosed               // to the oracle: up to which revision is nothing open?
	sayRevision             // Rev
	sayFetch                // to a share: the users of the tuple of Muts at Rev, but for the first ones, so many as Epoch says
	sayUsers                // a verdict, the users in Muts; Epoch as it was asked, Flag: there are more
	sayTable                // to a share: the table of Epoch and Nodes has the version Id
	sayKnown                // it is learnt
	sayFence                // to a share: fence Slot for the move Id
	sayFenced               // a verdict, Rows
	sayInstall              // to a share: Rows come in to Slot for the move Id
	sayInstalled            // a verdict
)

// key is what makes a question another one than those that have been put already.
type key struct {
	kind, to  int
	id, epoch int64
}

func keyOf(m api.Msg) key { return key{m.Kind, m.To, m.Id, m.Epoch} }

// verdict: an answer with an error. A message has no field for one; in these answers Slot has no other meaning.
func verdict(kind int, e api.Errno) api.Msg { return api.Msg{Kind: kind, Slot: int(e)} }

// verdictOf: the error of an answer.
func verdictOf(m api.Msg) api.Errno { return api.Errno(m.Slot) }

// fits: can a message be written?
func fits(m api.Msg) bool {
	_, e := code.Encode(m)
	return e == api.OK
}
