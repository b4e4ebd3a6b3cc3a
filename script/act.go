package script

import (
	"strconv"

	"porter/api"
)

// obey: the answer to a command with the words behind it; it counts only where there is no error.
func (d *Driver) obey(command string, words []string) (string, api.Errno) {
	switch command {
	case "put":
		return d.put(words)
	case "check", "expand", "read":
		return d.question(command, words)
	}
	n, e := numbers(words...)
	switch {
	case e != api.OK:
		return "", e
	case len(n) == 0:
		return d.obeyAlone(command)
	case len(n) == 1:
		return d.obeyOne(command, n[0])
	case len(n) == 2:
		return d.obeyTwo(command, n[0], n[1])
	}
	return "", api.ErrCommand
}

// obeyAlone: the answer to a command with nothing behind it.
func (d *Driver) obeyAlone(command string) (string, api.Errno) {
	switch command {
	case "round":
		d.round()
		return "ok", api.OK
	case "closed":
		closed, last, e := d.Closed()
		return "closed " + strconv.FormatInt(closed, 10) + " " + strconv.FormatInt(last, 10), e
	}
	return "", api.ErrCommand
}

// obeyOne: the answer to a command with one number.
func (d *Driver) obeyOne(command string, n int) (string, api.Errno) {
	switch command {
	case "ask":
		a, e := d.Ask(n)
		return d.told(n, a, e)
	case "finish":
		a, e := d.Finish(n, MaxRounds)
		return d.told(n, a, e)
	case "deliver":
		return "ok", d.Deliver(n)
	case "drop":
		return "ok", d.Drop(n)
	case "copy":
		return "ok", d.Copy(n)
	case "tick":
		return "ok", d.Tick(n)
	case "restart":
		return "ok", d.Restart(n)
	case "settle":
		return d.settle(n)
	}
	return "", api.ErrCommand
}

// obeyTwo: the answer to a command with two numbers.
func (d *Driver) obeyTwo(command string, n, m int) (string, api.Errno) {
	switch command {
	case "spoil":
		return "ok", d.Spoil(n, m)
	case "crash":
		return "ok", d.Crash(n, m)
	case "move":
		return "ok", d.Move(n, m)
	}
	return "", api.ErrCommand
}

// settle: does all come to rest, when nothing goes wrong any more?
func (d *Driver) settle(rounds int) (string, api.Errno) {
	switch {
	case rounds > MaxRounds:
		return "", api.ErrRange
	case d.Settle(rounds):
		return "quiet", api.OK
	}
	return "busy", api.OK
}

// round: the packets that are on their way now come to their nodes, and the clocks go on of all nodes that are up.
func (d *Driver) round() {
	for range d.Len() {
		d.Deliver(0)
	}
	for at := range d.Nodes() {
		d.Tick(at)
	}
}
