package script

import (
	"strconv"
	"strings"

	"porter/api"
	"porter/authz"
	"porter/tuple"
)

// The kinds of requests, each of which is told in its own way.
const (
	kindPut = iota
	kindCheck
	kindUsers
)

// put: the answer to a node and some tuples with their signs.
func (d *Driver) put(words []string) (string, api.Errno) {
	if len(words) == 0 {
		return "", api.ErrCommand
	}
	at, e := number(words[0])
	if e != api.OK {
		return "", e
	}
	muts, pre, e := signed(words[1:])
	if e != api.OK {
		return "", e
	}
	request, e := d.Put(at, muts, pre...)
	return d.asked(kindPut, request, e)
}

// question: the answer to a check, an expand or a read: all but the second of its words are numbers.
func (d *Driver) question(command string, words []string) (string, api.Errno) {
	count, user := 4, "@user:x"
	switch command {
	case "check":
		user = ""
	case "read":
		count = 3
	}
	if len(words) != count {
		return "", api.ErrCommand
	}
	n, e := numbers(append(words[:1:1], words[2:]...)...)
	if e != api.OK {
		return "", e
	}
	t, e := tuple.Parse(words[1] + user)
	if e != api.OK {
		return "", e
	}
	return d.pose(command, t, n)
}

// pose: a question is asked, with its node, its token and, but for a read, its budget.
func (d *Driver) pose(command string, t api.Tuple, n []int) (string, api.Errno) {
	at, token := n[0], int64(n[1])
	switch command {
	case "check":
		request, e := d.Check(at, t, token, n[2])
		return d.asked(kindCheck, request, e)
	case "expand":
		request, e := d.Expand(at, t, token, n[2])
		return d.asked(kindUsers, request, e)
	default:
		request, e := d.Read(at, t, token)
		return d.asked(kindUsers, request, e)
	}
}

// asked: the answer to what is a request now, if nothing was wrong.
func (d *Driver) asked(kind, request int, e api.Errno) (string, api.Errno) {
	if e != api.OK {
		return "", e
	}
	d.kinds[request] = kind
	return "request " + strconv.Itoa(request), api.OK
}

// told: what a request has come to, in words.
func (d *Driver) told(request int, a authz.Answer, e api.Errno) (string, api.Errno) {
	switch {
	case e != api.OK:
		return "", e
	case !a.Done:
		return "pending", api.OK
	case a.Code != api.OK:
		return "", a.Code
	}
	rev := strconv.FormatInt(a.Rev, 10)
	switch kind := d.kinds[request]; {
	case kind == kindPut:
		return "done " + rev, api.OK
	case kind == kindUsers:
		return strings.Join(append([]string{"users", rev}, a.Users...), " "), api.OK
	case a.Allow:
		return "allow " + rev, api.OK
	}
	return "deny " + rev, api.OK
}

// committed: all that is committed, and of which request.
func (d *Driver) committed() []string {
	requests := map[int]int{} // by their calls
	for request, kind := range d.kinds {
		if kind == kindPut {
			requests[d.Call(request)] = request
		}
	}
	var list []string
	for _, c := range d.Commits() {
		request, known := requests[c.Call]
		if !known {
			request = -1
		}
		list = append(list, "commit "+strconv.FormatInt(c.Rev, 10)+" "+strconv.Itoa(request))
	}
	return append(list, "ok")
}
