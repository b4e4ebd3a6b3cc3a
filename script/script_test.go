package script

import (
	"fmt"
	"math"
	"slices"
	"strings"
	"testing"

	"porter/api"
	"porter/authz"
	"porter/cluster"
	"porter/schema"
)

// world is a schema with all that leads from one question to others.
const world = `namespace user
namespace group
relation member: user, group#member
namespace doc
relation parent: doc
relation banned: user
relation viewer: user, group#member = (this | parent->viewer) - banned`

// made: a new driver of that schema with much room.
func made(t *testing.T, nodes int) *Driver {
	t.Helper()
	d, e, line := New(world, nodes, 8, api.MaxDisk)
	if e != api.OK || line != 0 {
		t.Fatalf("New: %v, line %d", e, line)
	}
	return d
}

// says: does a driver answer a line so?
func says(t *testing.T, d *Driver, line string, want ...string) {
	t.Helper()
	if got := d.Line(line); !slices.Equal(got, want) {
		t.Errorf("%.80q: %.200q, want %.200q", line, got, want)
	}
}

// all: does it answer all lines so, each in one line?
func all(t *testing.T, d *Driver, lines ...[2]string) {
	t.Helper()
	for _, x := range lines {
		says(t, d, x[0], x[1])
	}
}

// state: what a service is like, as far as its calls tell it.
func state(s *authz.Service) string {
	closed, last, e := s.Closed()
	text := fmt.Sprint(s.Len(), closed, last, e, s.Commits())
	for at := range s.Nodes() {
		rows, e := s.Rows(at)
		text += fmt.Sprint(s.Up(at), rows, e, s.Locks(at))
		for slot := range api.Slots {
			text += fmt.Sprint(s.Serves(at, slot))
		}
	}
	return text
}

// same: is nothing changed by some lines that are all answered so?
func same(t *testing.T, d *Driver, want string, lines ...string) {
	t.Helper()
	before := state(d.Service)
	for _, line := range lines {
		says(t, d, line, want)
	}
	if state(d.Service) != before {
		t.Errorf("refused lines change something: %q", lines)
	}
}

// P21.1: New's errors, and what a driver embeds.
func TestNew(t *testing.T) {
	for _, x := range []struct {
		text                string
		nodes, points, room int
		want                api.Errno
		line                int
	}{
		{"what", 0, 0, -1, api.ErrLine, 0},
		{"namespace a\nrelation b: c", 0, 0, -1, api.ErrType, 1},
		{"namespace a\nrelation b: a = b - b", 2, 8, 1000, api.ErrCycle, 1},
		{strings.Repeat("\n", schema.MaxText+1), 2, 8, 1000, api.ErrLong, 0},
		{world, 0, 8, 1000, api.ErrRange, 0}, {world, 9, 8, -1, api.ErrRange, 0}, {world, math.MinInt, 8, 1000, api.ErrRange, 0},
		{world, 2, 0, 1000, api.ErrRange, 0}, {world, 2, 65, 0, api.ErrRange, 0}, {world, 2, 8, api.MaxDisk + 1, api.ErrRange, 0},
		{world, 2, 8, 0, api.ErrFull, 0},
		{"", 1, 1, 100, api.OK, 0}, {world, 8, 64, api.MaxDisk, api.OK, 0},
	} {
		d, e, line := New(x.text, x.nodes, x.points, x.room)
		if e != x.want || line != x.line || (d == nil) != (e != api.OK) {
			t.Errorf("New(%.20q, %d, %d, %d): %v, line %d, want %v, line %d", x.text, x.nodes, x.points, x.room, e, line, x.want, x.line)
		}
		if d == nil {
			continue
		}
		s, _, _ := authz.New(x.text, x.nodes, x.points, x.room)
		if d.Service == nil || d.Nodes() != x.nodes || state(d.Service) != state(s) {
			t.Errorf("New(.., %d, ..) isn't a driver of that service", x.nodes)
		}
		says(t, d, "ask 0", "error 4")
		says(t, d, "commits", "ok")
	}
	if MaxText != 65536 || MaxRounds != 1000 {
		t.Error("the limits")
	}
}

// P21.1: a line that is none of those there are, or hasn't just as many words.
func TestUnknown(t *testing.T) {
	d := made(t, 2)
	says(t, d, "put 0 +doc:a#viewer@user:ann", "request 0")
	says(t, d, "tick 0", "ok")
	same(t, d, "error 210",
		"", " ", "  ", "what", "what 0", "what 0 0", "what 0 0 0", "0", "ok", "PUT 0", "Round", "rounds", "pu", "puts 0", "request 0", "error 210",
		"put", "put ", "put x", "put x +doc:a#viewer@user:ann", "put  0", " put 0", "put +doc:a#viewer@user:ann", "put\t0", "put 0 ", "put 0  +doc:a#viewer@user:ann",
		"put 0\n", "put 0\r", "\xff", "\x00", "put\x000", "round\n", "round\r", "\nround", "round\nround", "tick 0\n", "tick 0\r", "tick 0\ntick 0",
		"check", "check 0", "check 0 doc:a#viewer@user:ann", "check 0 doc:a#viewer@user:ann 0", "check 0 doc:a#viewer@user:ann 0 1 1", "check 0 doc:a#viewer@user:ann 0 1 ",
		"check 0  doc:a#viewer@user:ann 0 1", "check doc:a#viewer@user:ann 0 1", "check doc:a#viewer@user:ann 0 0 1",
		"expand", "expand 0", "expand 0 doc:a#viewer", "expand 0 doc:a#viewer 0", "expand 0 doc:a#viewer 0 1 1", "expand 0 doc:a#viewer  1",
		"read", "read 0", "read 0 doc:a#viewer", "read 0 doc:a#viewer 0 1", "read 0 doc:a#viewer ", "read  0 doc:a#viewer 0",
		"ask", "ask ", "ask 0 0", "ask  0", "finish", "finish 0 0", "finish 0 ",
		"deliver", "deliver 0 0", "drop", "drop 0 0", "copy", "copy 0 0", "tick", "tick 0 0", "restart", "restart 0 0",
		"spoil", "spoil 0", "spoil 0 0 0", "crash", "crash 0", "crash 0 0 0", "move", "move 0", "move 0 0 0",
		"settle", "settle 0 0", "settle ", "round 0", "round ", "closed 0", "closed ", " closed", "commits 0", "commits ", " commits", "commits\n", "nodes", "up 0", "len", "call 0", "write 0 +doc:a#viewer@user:ann",
	)
}

// P21.1: a number is one to nine digits, wherever one stands, ahead of all else that is wrong with the line.
func TestNoNumber(t *testing.T) {
	d := made(t, 2)
	says(t, d, "put 0 +doc:a#viewer@user:ann", "request 0")
	says(t, d, "tick 0", "ok")
	for _, no := range []string{"", "x", "-1", "+1", "-0", "1x", "x1", "0x1", "1_0", "1.0", "1e3", "0000000000", "0000000001", "1234567890", "99999999999999999999", "٣", "1\x00", "1\t", "\xb2", "/", ":"} {
		for _, form := range []string{
			"put %s", "put %s +doc:a#viewer@user:ann", "put %s what", "put %s +doc:a",
			"check %s doc:a#viewer@user:ann 0 1", "check 0 doc:a#viewer@user:ann %s 1", "check 0 doc:a#viewer@user:ann 0 %s",
			"check %s doc:a 0 1", "check 0 doc:a %s 1", "check 0 doc:a 0 %s", "check 9 doc:a 0 %s", "check 0 doc:a#viewer@user:ann %s 0",
			"expand %s doc:a#viewer 0 1", "expand 0 doc:a#viewer %s 1", "expand 0 doc:a#viewer 0 %s", "expand 0 doc:a 0 %s",
			"read %s doc:a#viewer 0", "read 0 doc:a#viewer %s", "read 0 doc:a %s",
			"ask %s", "finish %s", "deliver %s", "drop %s", "copy %s", "tick %s", "restart %s", "settle %s",
			"spoil %s 0", "spoil 0 %s", "crash %s 0", "crash 0 %s", "move %s 0", "move 0 %s", "move 99 %s",
		} {
			same(t, d, "error 210", fmt.Sprintf(form, no))
		}
	}
}

// P21.1 and P21.3: a number may be any, with noughts ahead too; what isn't there the calls tell.
func TestNumber(t *testing.T) {
	d := made(t, 2)
	for _, far := range []string{"2", "000000002", "7", "123456789", "999999999"} {
		same(t, d, "error 1", "put "+far, "put "+far+" +doc:a#viewer@user:ann", "check "+far+" doc:a#viewer@user:ann 0 1", "expand "+far+" doc:a#viewer 0 1", "read "+far+" doc:a#viewer 0",
			"tick "+far, "crash "+far+" 0", "crash "+far+" "+far, "restart "+far, "move 0 "+far)
		same(t, d, "error 4", "ask "+far, "finish "+far, "deliver "+far, "drop "+far, "copy "+far, "spoil "+far+" 0", "spoil "+far+" "+far)
	}
	same(t, d, "error 1", "move 16 1", "move 999999999 1", "settle 1001", "settle 000001001", "settle 999999999", "check 0 doc:a#viewer@user:ann 0 0", "check 0 doc:a#viewer@user:ann 0 1025",
		"check 0 doc:a#viewer@user:ann 0 999999999", "expand 0 doc:a#viewer 0 000000000", "expand 0 doc:a#viewer 0 1025")
	all(t, d, [][2]string{
		{"put 000000001 +doc:a#viewer@user:ann", "request 0"}, {"finish 000000000", "done 1"}, {"settle 000001000", "quiet"},
		{"check 01 doc:a#viewer@user:ann 01 01024", "request 1"}, {"finish 01", "allow 1"},
		{"check 0 doc:a#viewer@user:ann 999999999 1", "request 2"}, {"finish 2", "error 190"},
		{"expand 01 doc:a#viewer 000000000 000000002", "request 3"}, {"finish 00003", "users 1 user:ann"},
		{"read 00 doc:a#viewer 1", "request 4"}, {"finish 000000004", "users 1 user:ann"},
		{"tick 001", "ok"}, {"tick 09", "error 1"}, {"crash 01 999999999", "ok"}, {"restart 01", "ok"},
	}...)
}

// P21.1: a put's words, from the left, ahead of its call's errors.
func TestPutWords(t *testing.T) {
	d := made(t, 2)
	const ok = "+doc:a#viewer@user:ann"
	for _, x := range []struct {
		words string
		want  api.Errno
	}{
		{" ", api.ErrCommand}, {" " + ok + " ", api.ErrCommand}, {"  " + ok, api.ErrCommand}, {" " + ok + "  +doc:b#viewer@user:ann", api.ErrCommand},
		{" +", api.ErrForm}, {" -", api.ErrForm}, {" ?", api.ErrForm}, {" !", api.ErrForm}, {" *", api.ErrForm}, {" d", api.ErrForm}, {" \xff", api.ErrForm},
		{" doc:a", api.ErrForm}, {" +doc:a#viewer", api.ErrForm}, {" +doc:a@user:ann", api.ErrForm}, {" +doc#viewer@user:ann", api.ErrForm}, {" +doc:a#viewer@ann", api.ErrForm},
		{" +DOC:a#viewer@user:ann", api.ErrName}, {" ++doc:a#viewer@user:ann", api.ErrName}, {" +doc:a#viewer@user:ann\n", api.ErrName}, {" +doc:a##viewer@user:ann", api.ErrName}, {" +doc:a#viewer@user:ann#", api.ErrName},
		{" doc:a#viewer@user:ann", api.ErrCommand}, {" *doc:a#viewer@user:ann", api.ErrCommand}, {" ,doc:a#viewer@user:ann", api.ErrCommand}, {" .doc:a#viewer@user:ann", api.ErrCommand}, {" \xffdoc:a#viewer@user:ann", api.ErrCommand},
		{" *doc:a", api.ErrForm}, {" *doc:A#viewer@user:ann", api.ErrName},
		// From the left, and ahead of what the schema or the cluster says.
		{" " + ok + " doc:a " + " ", api.ErrForm}, {" " + ok + "  doc:a", api.ErrCommand}, {" *doc:a#viewer@user:ann doc:a", api.ErrCommand}, {" +doc:A#viewer@user:ann *doc:a#viewer@user:ann", api.ErrName},
		{" +file:a#viewer@user:ann +doc:a", api.ErrForm}, {" " + ok + " " + ok + " =doc:a#viewer@user:ann", api.ErrCommand}, {" ?doc:a#viewer@user:ann +doc:A#viewer@user:ann", api.ErrName},
		// Put's own.
		{"", api.ErrRange}, {" " + ok + " " + ok, api.ErrTwice}, {" " + ok + " -doc:a#viewer@user:ann", api.ErrTwice},
		{" +file:a#viewer@user:ann", api.ErrRelation}, {" +doc:a#owner@user:ann", api.ErrRelation}, {" +doc:a#viewer@doc:b", api.ErrType}, {" -doc:a#viewer@user:ann#member", api.ErrType},
		{strings.Repeat(" ?doc:a#viewer@user:ann", 61), api.ErrLong}, {strings.Repeat(" !doc:a#viewer@user:ann", 60) + " " + ok, api.ErrLong},
	} {
		want := fmt.Sprintf("error %d", int(x.want))
		same(t, d, want, "put 0"+x.words, "put 1"+x.words)
		if slices.Contains([]api.Errno{api.ErrCommand, api.ErrForm, api.ErrName, api.ErrRelation, api.ErrType}, x.want) {
			same(t, d, want, "put 7"+x.words)
		}
	}
	all(t, d, [][2]string{
		{"put 0" + strings.Repeat(" !doc:a#viewer@user:ann", 59) + " " + ok, "request 0"}, {"finish 0", "done 1"}, {"settle 400", "quiet"},
		{"put 1" + strings.Repeat(" ?doc:a#viewer@user:ann", 60), "request 1"}, {"finish 1", "done 2"}, {"settle 400", "quiet"},
		{"crash 1 0", "ok"}, {"put 1 " + ok, "error 191"}, {"put 1", "error 191"}, {"put 1 doc:a", "error 51"}, {"put 1 +doc:a#viewer@doc:b", "error 63"},
	}...)
}

// P21.1: what the four signs say.
func TestPutSigns(t *testing.T) {
	d := made(t, 3)
	for i, x := range []struct{ words, want, users string }{
		{"+doc:a#viewer@user:ann", "done 1", " user:ann"},
		{"+doc:a#viewer@user:bob ?doc:a#viewer@user:ann", "done 2", " user:ann user:bob"},
		{"-doc:a#viewer@user:ann !doc:a#viewer@user:cid", "done 3", " user:bob"},
		{"+doc:a#viewer@user:cid ?doc:a#viewer@user:ann", "error 151", " user:bob"},
		{"+doc:a#viewer@user:cid !doc:a#viewer@user:bob", "error 151", " user:bob"},
		{"?doc:a#viewer@user:bob +doc:a#viewer@group:g#member !doc:a#viewer@user:ann -doc:a#viewer@user:bob", "done 4", " group:g#member"},
		{"-doc:a#viewer@group:g#member -doc:a#viewer@user:ann ?doc:a#viewer@group:g#member", "done 5", ""},
		{"+doc:a#viewer@user:ann ?no:such#thing@at:all", "error 151", ""},
		{"+doc:a#viewer@user:ann !no:such#thing@at:all", "done 6", " user:ann"},
	} {
		says(t, d, fmt.Sprintf("put %d %s", i%3, x.words), fmt.Sprintf("request %d", 2*i))
		says(t, d, fmt.Sprintf("finish %d", 2*i), x.want)
		says(t, d, "settle 400", "quiet")
		says(t, d, fmt.Sprintf("read %d doc:a#viewer 0", i%3), fmt.Sprintf("request %d", 2*i+1))
		_, rev, _ := d.Closed()
		says(t, d, fmt.Sprintf("finish %d", 2*i+1), fmt.Sprintf("users %d%s", rev, x.users))
	}
}

// P21.1: the errors of questions: numbers, then the tuple, then the call's.
func TestQuestionErrors(t *testing.T) {
	d := made(t, 2)
	same(t, d, "error 51", "check 0 doc:a 0 1", "check 9 doc:a#viewer 0 0", "check 0 doc:a@user:ann 0 1", "check 0  0 1", "check 0 doc#viewer@user:ann 0 1", "check 0 doc:a#viewer@ann 0 1",
		"expand 0 doc:a 0 1", "expand 9 doc 0 0", "expand 0  0 1", "expand 0 doc#viewer 0 1", "read 0 doc:a 0", "read 9  0", "read 0 doc:a@user:ann 0")
	same(t, d, "error 50", "check 0 doc:A#viewer@user:ann 0 1", "check 9 doc:a#@user:ann 0 0", "check 0 doc:a#viewer@user:ann@user:x 0 1", "check 0 +doc:a#viewer@user:ann 0 1",
		"expand 0 doc:A#viewer 0 1", "expand 9 doc:a# 0 0", "expand 0 doc:a#viewer@user:ann 0 1", "expand 0 doc:a#viewer@user:ann# 0 1", "expand 0 doc:a#viewer@ 0 1",
		"read 0 doc:a#viewer@user:ann 0", "read 9 doc:a#view/er 0", "read 0 doc:a#viewer#viewer 0")
	same(t, d, "error 62", "check 9 doc:a#owner@user:ann 0 1", "check 0 file:a#viewer@user:ann 0 1", "expand 9 doc:a#owner 0 1", "expand 0 doc:a#member 0 1", "read 9 user:a#viewer 0", "read 0 doc:a#owner 0")
	same(t, d, "error 1", "check 9 doc:a#owner@user:ann 0 0", "expand 0 doc:a#owner 0 1025", "expand 9 doc:a#viewer 0 1", "read 9 doc:a#viewer 0", "check 9 doc:a#viewer@user:ann 0 1")
	all(t, d, [][2]string{
		{"check 0 doc:a#viewer@any:user 0 9", "request 0"}, {"finish 0", "deny 0"}, {"check 0 doc:a#viewer@any:user#at_all 0 9", "error 50"},
		{"crash 1 0", "ok"}, {"check 1 doc:a#viewer@user:ann 0 1", "error 191"}, {"expand 1 doc:a#viewer 0 1", "error 191"}, {"read 1 doc:a#viewer 0", "error 191"},
		{"expand 0 doc:a#viewer 0 1", "request 1"}, {"read 0 doc:a#viewer 0", "request 2"},
	}...)
}

// P21.2: what ask and finish tell of each kind of request.
func TestTold(t *testing.T) {
	d := made(t, 3)
	all(t, d, [][2]string{
		{"ask 0", "error 4"}, {"finish 0", "error 4"},
		{"put 1 +doc:a#viewer@group:g#member +group:g#member@user:bob +group:g#member@user:ann +doc:a#banned@user:eve", "request 0"}, {"ask 0", "pending"},
		{"finish 0", "done 1"}, {"ask 0", "done 1"}, {"finish 0", "done 1"}, {"settle 400", "quiet"},
		{"check 0 doc:a#viewer@user:ann 1 3", "request 1"}, {"check 1 doc:a#viewer@user:eve 1 3", "request 2"}, {"check 2 doc:a#viewer@user:ann 1 2", "request 3"},
		{"expand 0 doc:a#viewer 0 9", "request 4"}, {"expand 1 doc:b#viewer 0 9", "request 5"}, {"expand 2 doc:a#viewer 0 2", "request 6"},
		{"read 0 doc:a#viewer 0", "request 7"}, {"read 1 doc:b#viewer 0", "request 8"}, {"read 2 doc:a#viewer 2", "request 9"},
		{"put 2 +doc:a#viewer@user:ann ?doc:b#viewer@user:ann", "request 10"}, {"check 1 doc:a#viewer@user:ann 1 3", "request 11"}, {"put 1 +doc:a#viewer@user:ann", "request 12"},
	}...)
	for k := 1; k <= 12; k++ {
		says(t, d, fmt.Sprintf("ask %d", k), "pending")
	}
	all(t, d, [][2]string{
		{"crash 1 0", "ok"}, {"ask 11", "error 191"}, {"ask 12", "error 191"}, {"ask 2", "error 191"}, {"ask 5", "error 191"}, {"finish 8", "error 191"}, {"restart 1", "ok"},
		{"finish 1", "allow 1"}, {"ask 1", "allow 1"}, {"finish 3", "error 80"}, {"ask 3", "error 80"}, {"finish 4", "users 1 user:ann user:bob"}, {"ask 4", "users 1 user:ann user:bob"},
		{"finish 6", "error 80"}, {"finish 7", "users 1 group:g#member"}, {"ask 7", "users 1 group:g#member"}, {"finish 9", "error 190"}, {"finish 10", "error 151"}, {"ask 10", "error 151"},
		{"settle 400", "quiet"},
		{"check 1 doc:a#viewer@user:eve 1 3", "request 13"}, {"finish 13", "deny 1"}, {"ask 13", "deny 1"}, {"expand 1 doc:b#viewer 0 9", "request 14"}, {"finish 14", "users 1"},
		{"read 1 doc:b#viewer 0", "request 15"}, {"finish 15", "users 1"}, {"ask 15", "users 1"}, {"ask 16", "error 4"},
	}...)
}

// long: a driver with a question, its request 10, that leads from one group to the next, four hundred times.
func long(t *testing.T) *Driver {
	t.Helper()
	d := made(t, 3)
	for i := range 10 {
		line := fmt.Sprintf("put %d", i%3)
		for k := 40 * i; k < 40*i+40; k++ {
			line += fmt.Sprintf(" +group:g%d#member@group:g%d#member", k, k+1)
		}
		says(t, d, line, fmt.Sprintf("request %d", i))
		says(t, d, "settle 400", "quiet")
	}
	says(t, d, "check 1 group:g0#member@user:ann 0 1024", "request 10")
	return d
}

// P21.1: finish takes a thousand rounds, and not one more.
func TestFinishRounds(t *testing.T) {
	d := long(t)
	rounds := 0
	for ; !slices.Equal(d.Line("ask 10"), []string{"deny 10"}); rounds++ {
		if rounds > 4000 {
			t.Fatal("the question comes to nothing")
		}
		d.Settle(1)
	}
	if rounds < 1002 {
		t.Fatalf("the question takes only %d rounds", rounds)
	}
	for _, x := range []struct {
		left int
		want string
	}{{999, "deny 10"}, {1000, "deny 10"}, {1001, "pending"}, {rounds, "pending"}} {
		d := long(t)
		for range rounds - x.left {
			d.Ask(10)
			d.Settle(1)
		}
		says(t, d, "finish 10", x.want)
		says(t, d, "finish 10", "deny 10")
	}
}

// P21.1: crash is the service's: a question at a node that crashed is lost, though the node is up again when it is asked for.
func TestCrashAndRestart(t *testing.T) {
	all(t, made(t, 2), [][2]string{
		{"put 0 +doc:a#viewer@user:ann", "request 0"}, {"settle 400", "quiet"}, {"check 0 doc:a#viewer@user:ann 1 9", "request 1"}, {"check 1 doc:a#viewer@user:ann 1 9", "request 2"},
		{"settle 400", "quiet"}, {"crash 0 0", "ok"}, {"restart 0", "ok"}, {"ask 1", "error 191"}, {"finish 2", "allow 1"}, {"ask 0", "done 1"},
	}...)
}

// P21.1 and P21.2: deliver, drop, copy, tick, spoil, crash, restart and move are the cluster's.
func TestActs(t *testing.T) {
	d := made(t, 2)
	s := made(t, 2).Service
	act := func(line string, e api.Errno) {
		t.Helper()
		want := "ok"
		if e != api.OK {
			want = fmt.Sprintf("error %d", int(e))
		}
		says(t, d, line, want)
		if state(d.Service) != state(s) {
			t.Fatalf("%q does something else", line)
		}
	}
	put := func() {
		t.Helper()
		d.Line("put 0 +doc:a#viewer@user:ann +doc:b#viewer@user:ann +doc:c#viewer@user:ann +doc:d#viewer@user:ann")
		s.Put(0, []api.Mutation{{Tuple: tup("doc:a#viewer@user:ann")}, {Tuple: tup("doc:b#viewer@user:ann")}, {Tuple: tup("doc:c#viewer@user:ann")}, {Tuple: tup("doc:d#viewer@user:ann")}})
	}
	for _, x := range []string{"deliver", "drop", "copy"} {
		act(x+" 0", api.ErrMissing)
	}
	act("spoil 0 0", api.ErrMissing)
	put()
	act("tick 0", s.Tick(0))
	if s.Len() < 2 {
		t.Fatalf("%d packets are on their way", s.Len())
	}
	act("copy 1", s.Copy(1))
	act("spoil 1 77", s.Spoil(1, 77))
	act("spoil 1 77", api.ErrTwice)
	act("spoil 0 999999999", api.ErrRange)
	act("deliver 1", s.Deliver(1))
	act("drop 0", s.Drop(0))
	act("deliver 0", s.Deliver(0))
	act("deliver 99", api.ErrMissing)
	act("drop 99", api.ErrMissing)
	for i := range 40 {
		at := i % 2
		act(fmt.Sprintf("tick %d", at), s.Tick(at))
		for s.Len() > 0 && i > 3 {
			act("deliver 0", s.Deliver(0))
		}
	}
	if len(s.Commits()) != 1 {
		t.Fatalf("commits: %v", s.Commits())
	}
	act("crash 1 0", s.Crash(1, 0))
	act("crash 1 0", api.ErrDown)
	act("tick 1", api.ErrDown)
	act("restart 1", s.Restart(1))
	act("restart 1", api.ErrTwice)
	act("restart 0", api.ErrTwice)
	slot := 0
	for !s.Serves(0, slot) {
		slot++
	}
	act(fmt.Sprintf("move %d 1", slot), s.Move(slot, 1))
	if e := s.Move(slot, 1); e == api.OK {
		t.Error("two moves")
	} else {
		act(fmt.Sprintf("move %d 1", slot), e)
	}
	act("move 3 2", api.ErrRange)
	s.Settle(400)
	says(t, d, "settle 400", "quiet")
	act("tick 0", s.Tick(0))
	if !d.Serves(1, slot) {
		t.Error("the slot isn't moved")
	}
	act("crash 0 5", s.Crash(0, 5))
	act("move 3 2", api.ErrDown)
	act("move 99 99", api.ErrDown)
}

// P21.1: a crash is the service's, whatever number of bytes it is told to keep.
func TestCrash(t *testing.T) {
	for _, keep := range []int{0, 1, 5, 39, 999999999} {
		d, s := made(t, 2), made(t, 2).Service
		for i := range 3 {
			says(t, d, fmt.Sprintf("put 1 +doc:a%d#viewer@user:ann", i), fmt.Sprintf("request %d", i))
			s.Put(1, []api.Mutation{{Tuple: tup(fmt.Sprintf("doc:a%d#viewer@user:ann", i))}})
			for range i {
				says(t, d, "round", "ok")
				for range s.Len() {
					s.Deliver(0)
				}
				s.Tick(0)
				s.Tick(1)
			}
		}
		says(t, d, fmt.Sprintf("crash 1 %d", keep), "ok")
		s.Crash(1, keep)
		says(t, d, "restart 1", "ok")
		s.Restart(1)
		if state(d.Service) != state(s) {
			t.Errorf("crash 1 %d is another one", keep)
		}
	}
}

// P21.1 and P21.2: settle: so many rounds, a thousand at most; quiet or busy.
func TestSettle(t *testing.T) {
	d, s := made(t, 3), made(t, 3).Service
	all(t, d, [][2]string{{"settle 0", "quiet"}, {"put 1 +doc:a#viewer@user:ann +doc:b#viewer@user:bob", "request 0"}, {"crash 2 0", "ok"}, {"settle 1001", "error 1"}}...)
	s.Put(1, []api.Mutation{{Tuple: tup("doc:a#viewer@user:ann")}, {Tuple: tup("doc:b#viewer@user:bob")}})
	s.Crash(2, 0)
	if d.Up(2) || d.Len() > 0 {
		t.Error("a settle that is refused does something")
	}
	for _, rounds := range []int{0, 1, 2, 0, 3, 1000} {
		want := "busy"
		if s.Settle(rounds) {
			want = "quiet"
		}
		says(t, d, fmt.Sprintf("settle %d", rounds), want)
		if state(d.Service) != state(s) || !d.Up(2) || (want == "quiet") != (rounds == 1000) {
			t.Errorf("settle %d: %s", rounds, want)
		}
	}
	says(t, d, "ask 0", "done 1")
	// A node that can't be started any more: no settle is quiet.
	d, _, _ = New(world, 2, 8, 500)
	for d.Up(1) {
		d.Crash(1, 0)
		d.Restart(1)
	}
	says(t, d, "restart 1", "error 3")
	says(t, d, "settle 1000", "busy")
}

// P21.1: a round: the packets that are on their way, no others, and then all clocks from node 0 on; of nodes that are down too.
func TestRound(t *testing.T) {
	for down := -1; down < 3; down++ {
		d, s := made(t, 3), made(t, 3).Service
		for i := range 12 {
			says(t, d, fmt.Sprintf("put %d +doc:a%d#viewer@user:ann +doc:b%d#viewer@user:ann", i%3, i, i), fmt.Sprintf("request %d", i))
			s.Put(i%3, []api.Mutation{{Tuple: tup(fmt.Sprintf("doc:a%d#viewer@user:ann", i))}, {Tuple: tup(fmt.Sprintf("doc:b%d#viewer@user:ann", i))}})
		}
		for i := range 30 {
			if i == 3 && down >= 0 {
				says(t, d, fmt.Sprintf("crash %d 3", down), "ok")
				s.Crash(down, 3)
			}
			says(t, d, "round", "ok")
			for range s.Len() {
				s.Deliver(0)
			}
			for at := range 3 {
				s.Tick(at)
			}
			if state(d.Service) != state(s) {
				t.Fatalf("down %d: round %d is another one", down, i)
			}
		}
		if down < 0 && len(s.Commits()) != 12 {
			t.Errorf("only %d commits", len(s.Commits()))
		}
	}
}

// P21.1 and P21.2: closed: up to which revision nothing is open, and the last one.
func TestClosed(t *testing.T) {
	d := made(t, 2)
	says(t, d, "closed", "closed 0 0")
	says(t, d, "put 1 +doc:a#viewer@user:ann +doc:b#viewer@user:ann +doc:c#viewer@user:ann +doc:d#viewer@user:ann", "request 0")
	open := false
	for range 30 {
		says(t, d, "round", "ok")
		closed, last, _ := d.Closed()
		open = open || closed == 0 && last == 1
		says(t, d, "closed", fmt.Sprintf("closed %d %d", closed, last))
	}
	if !open {
		t.Error("the revision was never open")
	}
	all(t, d, [][2]string{{"closed", "closed 1 1"}, {"crash 1 0", "ok"}, {"closed", "closed 1 1"}, {"crash 0 0", "ok"}, {"closed", "error 191"}, {"restart 0", "ok"}, {"closed", "closed 1 1"}}...)
}

// P21.2: commits tells revisions and the requests' numbers, which aren't the calls'.
func TestCommits(t *testing.T) {
	d := made(t, 3)
	says(t, d, "commits", "ok")
	all(t, d, [][2]string{
		{"check 0 doc:a#viewer@user:ann 0 9", "request 0"}, {"finish 0", "deny 0"}, {"put 0 +doc:a#viewer@user:ann", "request 1"}, {"settle 400", "quiet"},
	}...)
	says(t, d, "commits", "commit 1 1", "ok")
	all(t, d, [][2]string{
		{"put 1 +doc:a#viewer@user:bob ?doc:a#viewer@user:cid", "request 2"}, {"settle 400", "quiet"},
		{"expand 2 doc:a#viewer 0 9", "request 3"}, {"finish 3", "users 1 user:ann"}, {"expand 2 doc:a#viewer 0 9", "request 4"}, {"finish 4", "users 1 user:ann"},
		{"put 2 +doc:a#viewer@user:bob !doc:a#viewer@user:cid", "request 5"}, {"settle 400", "quiet"},
	}...)
	says(t, d, "commits", "commit 1 1", "commit 2 5", "ok")
	// A write of the cluster's own is no request.
	if _, e := d.Write(1, []api.Mutation{{Tuple: tup("doc:a#viewer@user:cid")}}); e != api.OK {
		t.Fatalf("Write: %v", e)
	}
	all(t, d, [][2]string{{"settle 400", "quiet"}, {"put 0 -doc:a#viewer@user:cid", "request 6"}, {"settle 400", "quiet"}, {"crash 2 0", "ok"}}...)
	says(t, d, "commits", "commit 1 1", "commit 2 5", "commit 3 -1", "commit 4 6", "ok")
	all(t, d, [][2]string{{"crash 0 0", "ok"}, {"crash 1 0", "ok"}}...)
	says(t, d, "commits", "commit 1 1", "commit 2 5", "commit 3 -1", "commit 4 6", "ok")
	all(t, d, [][2]string{{"settle 400", "quiet"}, {"ask 2", "error 151"}, {"ask 6", "done 4"}}...)
}

// P21.1: the service's and the cluster's calls can be asked of a driver.
func TestPromoted(t *testing.T) {
	d := made(t, 2)
	says(t, d, "put 0 +doc:a#viewer@user:ann", "request 0")
	says(t, d, "check 0 doc:a#viewer@user:ann 0 9", "request 1")
	if d.Call(0) != 0 || d.Call(1) != -1 {
		t.Errorf("Call: %d, %d", d.Call(0), d.Call(1))
	}
	if o, e := d.Result(0); e != api.OK || o.State != cluster.Pending {
		t.Errorf("Result: %v, %v", o, e)
	}
	if a, e := d.Finish(0, 400); e != api.OK || a.Rev != 1 {
		t.Errorf("Finish: %v, %v", a, e)
	}
	if !d.Settle(400) {
		t.Error("Settle")
	}
	if a, e := d.Ask(1); e != api.OK || a.Done {
		t.Errorf("Ask: %v, %v", a, e)
	}
	says(t, d, "ask 0", "done 1")
	if e := d.Crash(0, 0); e != api.OK {
		t.Errorf("Crash: %v", e)
	}
	says(t, d, "ask 1", "error 191")
	if e := d.Restart(0); e != api.OK || !d.Up(0) {
		t.Errorf("Restart: %v", e)
	}
	k, _ := d.Fetch(1, "doc:a", "viewer", 1)
	says(t, d, "settle 400", "quiet")
	if o, _ := d.Result(k); !slices.Equal(o.Users, []string{"user:ann"}) {
		t.Errorf("Fetch: %v", o)
	}
}

// tup: the tuple of a text such as doc:a#viewer@user:ann.
func tup(text string) api.Tuple {
	object, rest, _ := strings.Cut(text, "#")
	relation, user, _ := strings.Cut(rest, "@")
	return api.Tuple{Object: object, Relation: relation, User: user}
}
