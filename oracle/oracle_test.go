package oracle

import (
	"fmt"
	"math"
	"math/rand"
	"reflect"
	"strings"
	"testing"

	"porter/api"
	"porter/disk"
	"porter/log"
)

// on: a disk with room for so many bytes, and a log with these records on it.
func on(t *testing.T, size int, records ...api.Msg) (*disk.Disk, *log.Log) {
	t.Helper()
	d, e := disk.New(size)
	if e != api.OK {
		t.Fatalf("disk.New(%d): %v", size, e)
	}
	l, _ := log.Open(d)
	for _, r := range records {
		if e := l.Write(r); e != api.OK {
			t.Fatalf("Write: %v", e)
		}
	}
	return d, l
}

// again: the log on a disk behind a crash that keeps nothing, the oracle of its records, and the records.
func again(d *disk.Disk) (*Oracle, []api.Msg) {
	d.Crash(0)
	l, records := log.Open(d)
	return Open(l, records...), records
}

// issued and resolved: records of an oracle; the node that asks is always 3.
func issued(id, rev int64) api.Msg { return api.Msg{Kind: 1, From: 3, Id: id, Rev: rev} }

func resolved(id int64) api.Msg { return api.Msg{Kind: 2, Id: id} }

// wide: the same record, with all fields in it that are passed over.
func wide(r api.Msg) api.Msg {
	x := api.Tuple{Object: "doc:a", Relation: "viewer", User: "user:ann"}
	r.To, r.Epoch, r.Slot, r.Flag, r.Nodes = 7, 1<<51, 6, true, []int{1, 2}
	r.Muts, r.Pre, r.Rows = []api.Mutation{{Tuple: x}}, []api.Condition{{Tuple: x}}, []api.Row{{Tuple: x, Since: 4}}
	if r.Kind == KResolve {
		r.From, r.Rev = -5, 99
	}
	return r
}

// texts: records, each of those of an oracle in short: + and its Id, Rev and From; - and its Id.
func texts(records []api.Msg) string {
	var list []string
	for _, r := range records {
		switch {
		case reflect.DeepEqual(r, api.Msg{Kind: 1, From: r.From, Id: r.Id, Rev: r.Rev}):
			list = append(list, fmt.Sprintf("+%d=%d/%d", r.Id, r.Rev, r.From))
		case reflect.DeepEqual(r, api.Msg{Kind: 2, Id: r.Id}):
			list = append(list, fmt.Sprintf("-%d", r.Id))
		default:
			list = append(list, fmt.Sprintf("%v", r))
		}
	}
	return strings.Join(list, " ")
}

// tells: what Last, Closed and Pending of an oracle tell.
func tells(o *Oracle) string {
	return strings.TrimSpace(fmt.Sprintf("%d %d %s", o.Last(), o.Closed(), texts(o.Pending())))
}

// P14.1 and P14.2: which records count, and what follows from them.
func TestOpen(t *testing.T) {
	other := func(kind int) api.Msg { return api.Msg{Kind: kind, Id: 7, Rev: 50, From: 1} }
	for _, x := range []struct {
		records []api.Msg
		want    string
	}{
		{nil, "0 0"},
		{[]api.Msg{{}}, "0 0"},
		{[]api.Msg{issued(7, 1)}, "1 0 +7=1/3"},
		{[]api.Msg{issued(7, 1), issued(8, 2)}, "2 0 +7=1/3 +8=2/3"},
		{[]api.Msg{issued(7, 1), resolved(7)}, "1 1"},
		{[]api.Msg{issued(7, 1), issued(8, 2), resolved(7)}, "2 1 +8=2/3"},
		{[]api.Msg{issued(7, 1), issued(8, 2), resolved(8)}, "2 0 +7=1/3"},
		{[]api.Msg{issued(7, 1), issued(8, 2), resolved(8), resolved(7)}, "2 2"},
		{[]api.Msg{issued(7, 1), issued(8, 2), issued(9, 3), issued(6, 4), resolved(8), resolved(7), resolved(6)}, "4 2 +9=3/3"},
		// Revisions with gaps.
		{[]api.Msg{issued(7, 5)}, "5 4 +7=5/3"},
		{[]api.Msg{issued(7, 5), resolved(7), issued(8, 9)}, "9 8 +8=9/3"},
		{[]api.Msg{issued(7, 5), issued(8, 9), resolved(7)}, "9 8 +8=9/3"},
		{[]api.Msg{issued(7, math.MaxInt64)}, "9223372036854775807 9223372036854775806 +7=9223372036854775807/3"},
		// Revisions that are below 1, or not above all ahead that count.
		{[]api.Msg{issued(7, 0)}, "0 0"},
		{[]api.Msg{issued(7, -1), issued(8, math.MinInt64)}, "0 0"},
		{[]api.Msg{issued(7, 5), issued(8, 5), issued(9, 4), issued(6, 0)}, "5 4 +7=5/3"},
		{[]api.Msg{issued(7, 5), resolved(7), issued(8, 5), issued(9, 3)}, "5 5"},
		{[]api.Msg{issued(7, 5), issued(8, 4), issued(8, 6)}, "6 4 +7=5/3 +8=6/3"},
		// Of what doesn't count nothing follows.
		{[]api.Msg{issued(7, 1), issued(7, 9), issued(8, 2)}, "2 0 +7=1/3 +8=2/3"},
		{[]api.Msg{issued(7, 1), resolved(7), issued(7, 2), issued(8, 2)}, "2 1 +8=2/3"},
		{[]api.Msg{issued(7, 0), resolved(7), issued(7, 1)}, "1 0 +7=1/3"},
		// Resolved ahead of its issue, twice, or never issued.
		{[]api.Msg{resolved(7), issued(7, 1)}, "1 0 +7=1/3"},
		{[]api.Msg{issued(7, 1), resolved(7), resolved(7), issued(8, 2)}, "2 1 +8=2/3"},
		{[]api.Msg{issued(7, 1), resolved(0), resolved(1), resolved(-7)}, "1 0 +7=1/3"},
		// Any Ids.
		{[]api.Msg{issued(0, 1), issued(-1, 2), issued(math.MinInt64, 3), issued(math.MaxInt64, 4), resolved(0)}, "4 1 +-1=2/3 +-9223372036854775808=3/3 +9223372036854775807=4/3"},
		// Other Kinds.
		{[]api.Msg{other(0), other(3), other(-1), other(257), other(math.MinInt)}, "0 0"},
		{[]api.Msg{issued(7, 1), other(0), other(3), other(9), other(-2), issued(8, 2)}, "2 0 +7=1/3 +8=2/3"},
		// All other fields.
		{[]api.Msg{wide(issued(7, 1)), wide(issued(8, 2)), wide(resolved(7))}, "2 1 +8=2/3"},
	} {
		d, l := on(t, 100, x.records[:min(len(x.records), 1)]...)
		before := d.Bytes()
		if text := tells(Open(l, x.records...)); text != x.want {
			t.Errorf("%s: %s, want %s", texts(x.records), text, x.want)
		}
		if !reflect.DeepEqual(d.Bytes(), before) {
			t.Errorf("%s: Open writes", texts(x.records))
		}
	}
	if KIssue != 1 || KResolve != 2 {
		t.Errorf("Kinds %d, %d", KIssue, KResolve)
	}
}

// P14.2: From, Id and Rev are those of the record that counts.
func TestPending(t *testing.T) {
	_, l := on(t, 100)
	o := Open(l, api.Msg{Kind: 1, From: -9, Id: 5, Rev: 3}, api.Msg{Kind: 1, From: math.MaxInt, Id: 6, Rev: 4}, api.Msg{Kind: 1, From: 2, Id: 5, Rev: 8}, api.Msg{Kind: 1, Id: 4, Rev: 6})
	want := []api.Msg{{Kind: 1, From: -9, Id: 5, Rev: 3}, {Kind: 1, From: math.MaxInt, Id: 6, Rev: 4}, {Kind: 1, Id: 4, Rev: 6}}
	if list := o.Pending(); !reflect.DeepEqual(list, want) {
		t.Errorf("%v, want %v", list, want)
	}
}

// P14.2: Closed and Pending, in whatever order all is resolved.
func TestClosed(t *testing.T) {
	for _, order := range [][]int64{{1, 2, 3, 4}, {4, 3, 2, 1}, {2, 1, 4, 3}, {3, 1, 4, 2}, {2, 4, 1, 3}} {
		_, l := on(t, 1000)
		o := Open(l, issued(1, 10), issued(2, 20), issued(3, 21), issued(4, 30))
		left := map[int64]int64{1: 10, 2: 20, 3: 21, 4: 30}
		for _, id := range order {
			if e := o.Resolve(id); e != api.OK {
				t.Fatalf("Resolve(%d): %v", id, e)
			}
			delete(left, id)
			first := int64(31)
			for _, rev := range left {
				first = min(first, rev)
			}
			if o.Closed() != first-1 || o.Last() != 30 || len(o.Pending()) != len(left) {
				t.Errorf("%v, behind %d: Closed %d, Last %d, pending %s", order, id, o.Closed(), o.Last(), texts(o.Pending()))
			}
			for _, r := range o.Pending() {
				if left[r.Id] != r.Rev {
					t.Errorf("%v, behind %d: pending %s", order, id, texts(o.Pending()))
				}
			}
		}
	}
}

// P14.3, and the chapter's example: each revision is one above the last, and the same for the same Id.
func TestIssue(t *testing.T) {
	d, l := on(t, 1000)
	o := Open(l)
	for _, x := range []struct {
		id    int64
		from  int
		rev   int64
		tells string
	}{
		{7, 4, 1, "1 0 +7=1/4"}, {8, 5, 2, "2 0 +7=1/4 +8=2/5"}, {7, 6, 1, "2 0 +7=1/4 +8=2/5"}, {8, 5, 2, "2 0 +7=1/4 +8=2/5"},
		{0, -1, 3, "3 0 +7=1/4 +8=2/5 +0=3/-1"}, {math.MinInt64, math.MaxInt, 4, "4 0 +7=1/4 +8=2/5 +0=3/-1 +-9223372036854775808=4/9223372036854775807"},
	} {
		if rev, e := o.Issue(x.id, x.from); rev != x.rev || e != api.OK || tells(o) != x.tells {
			t.Errorf("Issue(%d): %d, %v, then %s, want %d, %s", x.id, rev, e, tells(o), x.rev, x.tells)
		}
		if d.Durable() != d.Size() {
			t.Errorf("Issue(%d): what is written isn't durable", x.id)
		}
		if o, _ := again(d); tells(o) != x.tells {
			t.Errorf("Issue(%d), behind a crash: %s, want %s", x.id, tells(o), x.tells)
		}
	}
	if _, records := again(d); texts(records) != "+7=1/4 +8=2/5 +0=3/-1 +-9223372036854775808=4/9223372036854775807" {
		t.Errorf("written: %s", texts(records))
	}
}

// P14.3: what is resolved has its revision still.
func TestIssueOfWhatIsResolved(t *testing.T) {
	d, l := on(t, 1000)
	o := Open(l, issued(7, 5))
	if e := o.Resolve(7); e != api.OK {
		t.Fatal(e)
	}
	size := d.Size()
	if rev, e := o.Issue(7, 1); rev != 5 || e != api.OK || tells(o) != "5 5" || d.Size() != size {
		t.Errorf("%d, %v, %s", rev, e, tells(o))
	}
	if rev, e := o.Issue(8, 1); rev != 6 || e != api.OK || tells(o) != "6 5 +8=6/1" {
		t.Errorf("%d, %v, %s", rev, e, tells(o))
	}
}

// P14.3: no revision above MaxRev is given out, whether there is room for it or not.
func TestLastRevision(t *testing.T) {
	for _, room := range []int{0, 1000} {
		for _, last := range []int64{api.MaxRev, api.MaxRev + 1, math.MaxInt64} {
			d, l := on(t, room)
			o := Open(l, issued(7, last))
			if rev, e := o.Issue(8, 1); rev != 0 || e != api.ErrRange || d.Size() != 0 || o.Last() != last || len(o.Pending()) != 1 {
				t.Errorf("Issue behind %d: %d, %v, %s", last, rev, e, tells(o))
			}
			if rev, e := o.Issue(7, 1); rev != last || e != api.OK || d.Size() != 0 {
				t.Errorf("Issue of %d again: %d, %v", last, rev, e)
			}
		}
	}
	_, l := on(t, 1000)
	o := Open(l, issued(7, api.MaxRev-1), resolved(7))
	if rev, e := o.Issue(8, 1); rev != 1<<50 || e != api.OK || o.Last() != api.MaxRev || o.Closed() != api.MaxRev-1 {
		t.Errorf("Issue of MaxRev: %d, %v", rev, e)
	}
	if e := o.Resolve(8); e != api.OK || o.Closed() != api.MaxRev {
		t.Errorf("Resolve of MaxRev: %v, Closed %d", e, o.Closed())
	}
	if rev, e := o.Issue(9, 1); rev != 0 || e != api.ErrRange {
		t.Errorf("Issue above MaxRev: %d, %v", rev, e)
	}
}

// P14.3
func TestResolve(t *testing.T) {
	d, l := on(t, 1000)
	o := Open(l)
	if e := o.Resolve(0); e != api.ErrMissing || d.Size() != 0 {
		t.Errorf("Resolve of nothing: %v", e)
	}
	o.Issue(7, 1)
	o.Issue(8, 2)
	for _, x := range []struct {
		id      int64
		e       api.Errno
		tells   string
		written string
	}{
		{9, api.ErrMissing, "2 0 +7=1/1 +8=2/2", "+7=1/1 +8=2/2"},
		{1, api.ErrMissing, "2 0 +7=1/1 +8=2/2", "+7=1/1 +8=2/2"},
		{8, api.OK, "2 0 +7=1/1", "+7=1/1 +8=2/2 -8"},
		{8, api.OK, "2 0 +7=1/1", "+7=1/1 +8=2/2 -8"},
		{7, api.OK, "2 2", "+7=1/1 +8=2/2 -8 -7"},
		{7, api.OK, "2 2", "+7=1/1 +8=2/2 -8 -7"},
		{8, api.OK, "2 2", "+7=1/1 +8=2/2 -8 -7"},
		{-7, api.ErrMissing, "2 2", "+7=1/1 +8=2/2 -8 -7"},
	} {
		if e := o.Resolve(x.id); e != x.e || tells(o) != x.tells || d.Durable() != d.Size() {
			t.Errorf("Resolve(%d): %v, then %s, want %v, %s", x.id, e, tells(o), x.e, x.tells)
		}
		if o, records := again(d); tells(o) != x.tells || texts(records) != x.written {
			t.Errorf("Resolve(%d), behind a crash: %s of %s, want %s of %s", x.id, tells(o), texts(records), x.tells, x.written)
		}
	}
}

// P14.1 and P14.3: what others have in the same log is passed over, and stays.
func TestOneLogOfSeveral(t *testing.T) {
	other := api.Msg{Kind: 33, Id: 8, Rev: 44}
	d, l := on(t, 1000, other)
	o := Open(l, other)
	if rev, e := o.Issue(8, 1); rev != 1 || e != api.OK {
		t.Errorf("Issue: %d, %v", rev, e)
	}
	l.Add(other)
	if e := o.Resolve(8); e != api.OK || l.Count() != 4 {
		t.Errorf("Resolve: %v, %d records", e, l.Count())
	}
	o, records := again(d)
	if tells(o) != "1 1" || len(records) != 4 || records[0].Kind != 33 || records[2].Kind != 33 {
		t.Errorf("behind a crash: %s of %v", tells(o), records)
	}
}

// P14.3, and P2: without room nothing is given out and nothing resolved, and nothing has changed.
func TestNoRoom(t *testing.T) {
	probe, l := on(t, 1000)
	o := Open(l)
	o.Issue(7, 1)
	issue := probe.Size()
	o.Resolve(7)
	resolve := probe.Size() - issue
	for spare := range issue + 1 {
		d, l := on(t, issue+spare)
		o := Open(l)
		o.Issue(7, 1)
		rev, e := o.Issue(8, 1)
		if spare == issue {
			if rev != 2 || e != api.OK || tells(o) != "2 0 +7=1/1 +8=2/1" {
				t.Errorf("room for an issue: %d, %v, %s", rev, e, tells(o))
			}
			continue
		}
		if rev != 0 || e != api.ErrFull || tells(o) != "1 0 +7=1/1" || d.Size() != issue || o.Resolve(8) != api.ErrMissing {
			t.Errorf("%d bytes left for an issue: %d, %v, %s", spare, rev, e, tells(o))
		}
		if rev, e := o.Issue(7, 2); rev != 1 || e != api.OK {
			t.Errorf("%d bytes left, an issue again: %d, %v", spare, rev, e)
		}
		want, told := api.ErrFull, "1 0 +7=1/1"
		if spare >= resolve {
			want, told = api.OK, "1 1"
		}
		for range 2 {
			if e := o.Resolve(7); e != want || tells(o) != told {
				t.Errorf("%d bytes left for a resolve: %v, %s, want %v, %s", spare, e, tells(o), want, told)
			}
		}
		if o, _ := again(d); tells(o) != told {
			t.Errorf("%d bytes left, behind a crash: %s, want %s", spare, tells(o), told)
		}
	}
}

// P14.3, and P2: what is resolved needs no room to be resolved again.
func TestNoRoomIsNeeded(t *testing.T) {
	d, l := on(t, 0)
	o := Open(l, issued(7, 1), resolved(7), issued(8, 2))
	if e := o.Resolve(7); e != api.OK || d.Size() != 0 {
		t.Errorf("Resolve of what is resolved: %v", e)
	}
	if e := o.Resolve(8); e != api.ErrFull || tells(o) != "2 1 +8=2/3" {
		t.Errorf("Resolve without room: %v, %s", e, tells(o))
	}
	if e := o.Resolve(9); e != api.ErrMissing {
		t.Errorf("Resolve of nothing: %v", e)
	}
}

// P2: records are neither changed nor kept, and what is answered is new memory.
func TestMemory(t *testing.T) {
	_, l := on(t, 1000)
	records, kept := []api.Msg{wide(issued(7, 1)), wide(issued(8, 2)), wide(issued(9, 3))}, []api.Msg{wide(issued(7, 1)), wide(issued(8, 2)), wide(issued(9, 3))}
	o := Open(l, records...)
	o.Resolve(8)
	o.Issue(5, 1)
	if !reflect.DeepEqual(records, kept) {
		t.Errorf("records were changed: %v", records)
	}
	clear(records[:cap(records)])
	first, second := o.Pending(), o.Pending()
	clear(first[:cap(first)])
	want := "+7=1/3 +9=3/3 +5=4/1"
	if texts(second) != want || texts(o.Pending()) != want {
		t.Errorf("answers share memory: %s, %s", texts(second), texts(o.Pending()))
	}
	o.Resolve(7)
	if texts(second) != want {
		t.Errorf("an answer is kept: %s", texts(second))
	}
}

// Many records are read, and many revisions resolved, whichever order they have.
func TestManyRecords(t *testing.T) {
	const many = 200000
	var records []api.Msg
	for i := range int64(many) {
		records = append(records, issued(i, i+1))
	}
	for i := range int64(many - 1) {
		records = append(records, resolved(i*7919%many))
	}
	_, l := on(t, 100)
	o := Open(l, records...)
	last := (many - 1) * int64(7919) % many
	if len(o.Pending()) != 1 || o.Closed() != last || o.Last() != many {
		t.Errorf("Closed %d, Last %d, %d pending", o.Closed(), o.Last(), len(o.Pending()))
	}
	if e := o.Resolve(last); e != api.OK || o.Closed() != many {
		t.Errorf("the last one: %v, Closed %d", e, o.Closed())
	}
}

// model is an oracle as P14.1 to P14.3 tell it, told once more in a plainer way: by the records that count alone.
type model struct{ counts []api.Msg }

func (m *model) last() int64 {
	last := int64(0)
	for _, r := range m.counts {
		last = max(last, r.Rev)
	}
	return last
}

// of: the issue of a transaction, and whether it is resolved.
func (m *model) of(id int64) (api.Msg, bool) {
	var issue api.Msg
	for _, r := range m.counts {
		switch {
		case r.Id == id && r.Kind == 2:
			return issue, true
		case r.Id == id:
			issue = r
		}
	}
	return issue, false
}

func (m *model) read(r api.Msg) {
	issue, _ := m.of(r.Id)
	switch {
	case r.Kind == 1 && issue.Kind == 0 && r.Rev > m.last():
		m.counts = append(m.counts, api.Msg{Kind: 1, From: r.From, Id: r.Id, Rev: r.Rev})
	case r.Kind == 2 && issue.Kind == 1:
		m.counts = append(m.counts, resolved(r.Id))
	}
}

func (m *model) tells() string {
	var pending []api.Msg
	closed := m.last()
	for i := len(m.counts) - 1; i >= 0; i-- {
		r := m.counts[i]
		if _, done := m.of(r.Id); r.Kind == 1 && !done {
			pending = append([]api.Msg{r}, pending...)
			closed = r.Rev - 1
		}
	}
	return strings.TrimSpace(fmt.Sprintf("%d %d %s", m.last(), closed, texts(pending)))
}

// play: any calls of an oracle, as some bytes say, on a disk with so many bytes of room, against its model.
func play(t *testing.T, room int, calls []byte) {
	t.Helper()
	d, l := on(t, room)
	m := &model{}
	var records []api.Msg
	for ; len(calls) > 0 && calls[0]&128 != 0; calls = calls[1:] {
		x := calls[0]
		records = append(records, api.Msg{Kind: int(x>>5) & 3, Id: int64(x & 3), Rev: int64(x>>2) & 7})
		m.read(records[len(records)-1])
	}
	for _, r := range records {
		if l.Write(r) != api.OK {
			return
		}
	}
	o := Open(l, records...)
	for i, x := range calls {
		id, size := int64(x&15), d.Size()
		issue, done := m.of(id)
		switch x >> 4 & 7 {
		case 0, 1, 2:
			rev, e := o.Issue(id, i)
			switch {
			case issue.Kind == 1 && (rev != issue.Rev || e != api.OK || d.Size() != size):
				t.Fatalf("call %d: Issue(%d) again: %d, %v, want %d", i, id, rev, e, issue.Rev)
			case issue.Kind == 0 && e == api.OK && rev != m.last()+1, e == api.ErrFull && rev != 0, e != api.OK && e != api.ErrFull:
				t.Fatalf("call %d: Issue(%d): %d, %v", i, id, rev, e)
			case e == api.OK:
				m.read(api.Msg{Kind: 1, From: i, Id: id, Rev: rev})
			}
		case 3, 4, 5:
			e := o.Resolve(id)
			switch {
			case issue.Kind == 0 && e != api.ErrMissing, done && (e != api.OK || d.Size() != size), issue.Kind == 1 && e != api.OK && e != api.ErrFull:
				t.Fatalf("call %d: Resolve(%d): %v", i, id, e)
			case e == api.OK && !done:
				m.read(resolved(id))
			}
		default:
			o, _ = again(d)
		}
		if text := tells(o); text != m.tells() {
			t.Fatalf("call %d: %s, want %s", i, text, m.tells())
		}
	}
}

// P14.1 to P14.3, and P2: any records and any calls, one behind the other.
func TestAnyCalls(t *testing.T) {
	r := rand.New(rand.NewSource(14))
	for range 2000 {
		calls := make([]byte, r.Intn(80))
		r.Read(calls)
		for i := range calls[:len(calls)/4] {
			calls[i] |= 128
		}
		play(t, 100+r.Intn(1500), calls)
	}
}

// P1, and what holds of all oracles.
func FuzzNothingPanics(f *testing.F) {
	f.Add(100, 1, int64(7), int64(1), 3, []byte{160, 0, 1, 0x31, 0x60, 0x30})
	f.Add(0, 1, int64(math.MinInt64), int64(math.MaxInt64), math.MinInt, []byte{})
	f.Add(50, -1, int64(0), int64(api.MaxRev), math.MaxInt, []byte{0, 1, 0x30, 0x31})
	f.Fuzz(func(t *testing.T, room, kind int, id, rev int64, from int, calls []byte) {
		play(t, room&0x7ff, calls)
		_, l := on(t, room&63)
		r := api.Msg{Kind: kind, Id: id, Rev: rev, From: from}
		o := Open(l, r, r, resolved(id), api.Msg{Kind: kind, Id: ^id, Rev: rev}, api.Msg{})
		counts := kind == 1 && rev > 0
		if counts && tells(o) != fmt.Sprintf("%d %d", rev, rev) || !counts && tells(o) != "0 0" {
			t.Errorf("%v: %s", r, tells(o))
		}
		if given, e := o.Issue(id, from); e == api.OK && counts != (given == rev) && given != 1 {
			t.Errorf("%v: %d, %v", r, given, e)
		}
		if e := o.Resolve(^id); e == api.OK {
			t.Errorf("%v: Resolve of nothing", r)
		}
	})
}
