package script

import (
	"fmt"
	"slices"
	"strings"
	"testing"

	"porter/api"
	"porter/ring"
	"porter/schema"
)

// runs: what a text is answered.
func runs(t *testing.T, text string, nodes int) string {
	t.Helper()
	told, e, line := Run(world, text, nodes)
	if e != api.OK || line != 0 {
		t.Fatalf("Run: %v, line %d", e, line)
	}
	return told
}

// P21.4: Run's errors.
func TestRunErrors(t *testing.T) {
	long := strings.Repeat("x", MaxText)
	for _, x := range []struct {
		schema, text string
		nodes        int
		want         api.Errno
		line         int
	}{
		{world, long + "x", 2, api.ErrLong, 0}, {world, strings.Repeat("\n", MaxText+1), 2, api.ErrLong, 0}, {"\n\nwhat", long + "x", 0, api.ErrLong, 0}, {world, long + long, 9, api.ErrLong, 0},
		{"what", "round", 2, api.ErrLine, 0}, {"namespace a\n\nrelation b: c", "round", 0, api.ErrType, 2}, {"namespace a\nrelation b: a = b - b", "", -1, api.ErrCycle, 1},
		{strings.Repeat("\n", schema.MaxText+1), "round", 2, api.ErrLong, 0},
		{world, "round", 0, api.ErrRange, 0}, {world, "", 9, api.ErrRange, 0}, {world, long, -5, api.ErrRange, 0},
	} {
		told, e, line := Run(x.schema, x.text, x.nodes)
		if told != "" || e != x.want || line != x.line {
			t.Errorf("Run(%.30q, %.9q, %d): %.9q, %v, line %d, want %v, line %d", x.schema, x.text, x.nodes, told, e, line, x.want, x.line)
		}
	}
	if told := runs(t, long, 2); told != "error 210\n" {
		t.Errorf("the longest line: %.90q", told)
	}
	if told := runs(t, strings.Repeat("\n", MaxText), 8); told != strings.Repeat("error 210\n", MaxText+1) {
		t.Errorf("the most lines: %d bytes", len(told))
	}
}

// P21.4: a text's lines are its pieces between the line ends; each line told has one behind it.
func TestRunLines(t *testing.T) {
	for _, x := range [][2]string{
		{"", "error 210\n"}, {"\n", "error 210\nerror 210\n"}, {"what", "error 210\n"},
		{"round", "ok\n"}, {"round\n", "ok\nerror 210\n"}, {"\nround", "error 210\nok\n"}, {"round\n\nround", "ok\nerror 210\nok\n"},
		{"round\r\nround", "error 210\nok\n"}, {"round\rround", "error 210\n"}, {"round\x00\nround", "error 210\nok\n"}, {"round\u2028round\vround", "error 210\n"},
		{"commits", "ok\n"}, {"commits\n", "ok\nerror 210\n"}, {"closed\ncommits\nclosed", "closed 0 0\nok\nclosed 0 0\n"},
		{"put 0 +doc:a#viewer@user:ann\nsettle 400\nput 1 +doc:b#viewer@user:ann\nsettle 400\ncommits\nask 1", "request 0\nquiet\nrequest 1\nquiet\ncommit 1 0\ncommit 2 1\nok\ndone 2\n"},
	} {
		if told := runs(t, x[0], 2); told != x[1] {
			t.Errorf("%q: %q, want %q", x[0], told, x[1])
		}
	}
}

// P21.4: whoever ranges over a text's lines may break off, and may begin anew.
func TestLines(t *testing.T) {
	list := lines("a\n\nb")
	for line := range list {
		if line != "a" {
			t.Errorf("the first line: %q", line)
		}
		break
	}
	for range 2 {
		if all := slices.Collect(list); !slices.Equal(all, []string{"a", "", "b"}) {
			t.Errorf("lines: %q", all)
		}
	}
}

// trace: a text that tells to how many nodes each of many writes goes.
func trace() string {
	var b strings.Builder
	for i := range 60 {
		fmt.Fprintf(&b, "put 0 +doc:d%d#viewer@user:ann +group:g%d#member@user:ann +doc:e%d#viewer@user:ann\ntick 0\ndrop 3\ndrop 2\ndrop 1\ndrop 0\nsettle 999\n", i, i, i)
	}
	return b.String() + "closed\ncommits\nround"
}

// fill: a text that fills the disks of two nodes: a slot with many rows is moved to and fro, and what the moves come to is told.
func fill() string {
	var b strings.Builder
	b.WriteString("put 0")
	for i := range 60 {
		fmt.Fprintf(&b, " +doc:a#viewer@user:a_user_with_a_long_name_%d", i)
	}
	for i := range 700 {
		fmt.Fprintf(&b, "\nsettle 15\nmove %d %d", ring.Slot("doc:a"), i%2)
	}
	return b.String() + "\nsettle 15\ncrash 0 0\nrestart 0\ncrash 1 0\nrestart 1"
}

// by: what a driver that is made so answers a text's lines.
func by(t *testing.T, text string, nodes, points, room int) string {
	t.Helper()
	d, e, _ := New(world, nodes, points, room)
	if e != api.OK {
		t.Fatalf("New: %v", e)
	}
	var told []string
	for _, line := range strings.Split(text, "\n") {
		told = append(told, d.Line(line)...)
	}
	return strings.Join(told, "\n") + "\n"
}

// P21.4: the driver is one of so many nodes, and 8 points.
func TestRunDriver(t *testing.T) {
	text := trace()
	for nodes := 1; nodes <= 8; nodes++ {
		told := runs(t, text, nodes)
		if told != by(t, text, nodes, 8, api.MaxDisk) {
			t.Errorf("%d nodes: Run's driver is another one", nodes)
		}
		if nodes == 5 && (told == by(t, text, 5, 7, api.MaxDisk) || told == by(t, text, 5, 10, api.MaxDisk) || told == by(t, text, 4, 8, api.MaxDisk)) {
			t.Error("the trace doesn't tell how many nodes and points there are")
		}
	}
}

// P21.4: the driver's room is MaxDisk.
func TestRunRoom(t *testing.T) {
	text := fill()
	told := runs(t, text, 2)
	if told != by(t, text, 2, 8, api.MaxDisk) {
		t.Error("Run's driver has another room")
	}
	if told == by(t, text, 2, 8, api.MaxDisk-1500) || !strings.Contains(told, "error") {
		t.Error("the text doesn't tell how much room there is")
	}
}

// P21.4 and P2: Run answers the same each time, and no run hangs on another one.
func TestRunAgain(t *testing.T) {
	text := trace()
	first := runs(t, text, 4)
	runs(t, "put 0 +doc:d1#viewer@user:ann\nsettle 400", 4)
	if runs(t, text, 4) != first {
		t.Error("Run answers otherwise the second time")
	}
}

// P2: what is answered is new memory.
func TestMemory(t *testing.T) {
	d := made(t, 2)
	all(t, d, [][2]string{{"put 0 +doc:a#viewer@user:ann", "request 0"}, {"settle 400", "quiet"}, {"expand 0 doc:a#viewer 0 9", "request 1"}, {"finish 1", "users 1 user:ann"}}...)
	for _, line := range []string{"", "round", "ask 0", "ask 1", "closed", "commits"} {
		want := d.Line(line)
		kept := slices.Clone(want)
		for range 2 {
			got := d.Line(line)
			for i := range got[:cap(got)] {
				got[:cap(got)][i] = "x"
			}
		}
		if !slices.Equal(want, kept) {
			t.Errorf("%q: answers share memory", line)
		}
		says(t, d, line, kept...)
	}
}

// Examples: of the layer, and 10 of the whole.
func TestExample(t *testing.T) {
	text := "put 0 +doc:a#viewer@user:ann\nfinish 0\nsettle 400\ncheck 1 doc:a#viewer@user:ann 1 5\nfinish 1\nwhat"
	if told := runs(t, text, 2); told != "request 0\ndone 1\nquiet\nrequest 1\nallow 1\nerror 210\n" {
		t.Errorf("%q", told)
	}
}
