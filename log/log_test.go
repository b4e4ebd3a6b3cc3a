package log

import (
	"bytes"
	"math"
	"math/rand"
	"reflect"
	"slices"
	"strings"
	"testing"

	"porter/api"
	"porter/code"
	"porter/disk"
	"porter/frame"
)

// room: an empty disk.
func room(t *testing.T, size int) *disk.Disk {
	t.Helper()
	d, e := disk.New(size)
	if e != api.OK {
		t.Fatalf("disk.New(%d): %v", size, e)
	}
	return d
}

// recordOf: the frame of a message's Encode.
func recordOf(t *testing.T, m api.Msg) []byte {
	t.Helper()
	payload, e := code.Encode(m)
	if e != api.OK {
		t.Fatalf("Encode: %v", e)
	}
	return sealed(t, payload)
}

// sealed: the frame of a payload.
func sealed(t *testing.T, payload []byte) []byte {
	t.Helper()
	b, e := frame.Seal(payload)
	if e != api.OK {
		t.Fatalf("Seal: %v", e)
	}
	return b
}

// messages: some that are told apart, the zero message among them.
func messages() []api.Msg {
	x := api.Tuple{Object: "doc:a", Relation: "viewer", User: "group:b#member"}
	return []api.Msg{
		{Kind: 3, From: 2, Id: 70, Muts: []api.Mutation{{Tuple: x}, {Delete: true, Tuple: x}}, Pre: []api.Condition{{Absent: true, Tuple: x}}},
		{},
		{Kind: math.MinInt, From: -1, To: math.MaxInt, Id: math.MinInt64, Rev: math.MaxInt64, Epoch: 1 << 50, Slot: 15, Flag: true},
		{Kind: 6, Nodes: []int{0, 3, -7}, Rows: []api.Row{{Tuple: x, Since: 4}, {Tuple: x, Since: 5, Until: 300}}},
		{Pre: []api.Condition{{Tuple: api.Tuple{Object: "\x00\xff", User: strings.Repeat("u", code.MaxText)}}}},
	}
}

// same: the same messages, empty lists and none being alike.
func same(a, b []api.Msg) bool {
	if len(a) != len(b) {
		return false
	}
	for i := range a {
		if !reflect.DeepEqual(plain(a[i]), plain(b[i])) {
			return false
		}
	}
	return true
}

// plain: the same message, its lists new and none of them nil.
func plain(m api.Msg) api.Msg {
	m.Nodes = append([]int{}, m.Nodes...)
	m.Muts = append([]api.Mutation{}, m.Muts...)
	m.Pre = append([]api.Condition{}, m.Pre...)
	m.Rows = append([]api.Row{}, m.Rows...)
	return m
}

// opened: the log on a disk, whose records are these; all that is left is durable.
func opened(t *testing.T, what string, d *disk.Disk, want []api.Msg) *Log {
	t.Helper()
	l, records := Open(d)
	if l == nil || !same(records, want) || l.Count() != len(want) || l.Left() != d.Left() {
		t.Fatalf("%s: the records %v, Count %d, Left %d; want %v, %d, %d", what, records, l.Count(), l.Left(), want, len(want), d.Left())
	}
	var all []byte
	for _, m := range want {
		all = append(all, recordOf(t, m)...)
	}
	if !bytes.Equal(d.Bytes(), all) || d.Durable() != len(all) {
		t.Fatalf("%s: the disk has %x, %d durable; want %x", what, d.Bytes(), d.Durable(), all)
	}
	return l
}

// filled: a disk that has these bytes, of which the first are durable.
func filled(t *testing.T, b []byte, durable int) *disk.Disk {
	t.Helper()
	d := room(t, len(b)+100)
	if e := d.Append(b[:durable]); e != api.OK {
		t.Fatal(e)
	}
	d.Sync()
	if e := d.Append(b[durable:]); e != api.OK {
		t.Fatal(e)
	}
	return d
}

// P4.1
func TestOpenOfAnEmptyDisk(t *testing.T) {
	for _, size := range []int{0, 1, 200, api.MaxDisk} {
		l := opened(t, "empty", room(t, size), nil)
		if l.Count() != 0 || l.Left() != size {
			t.Errorf("room %d: Count %d, Left %d", size, l.Count(), l.Left())
		}
	}
}

// P4.1: whatever the records are and however many of their bytes are durable.
func TestOpenOfWholeRecords(t *testing.T) {
	list := messages()
	for n := range len(list) + 1 {
		var all []byte
		for _, m := range list[:n] {
			all = append(all, recordOf(t, m)...)
		}
		for _, durable := range []int{0, len(all) / 2, len(all)} {
			d := filled(t, all, durable)
			opened(t, "whole records", d, list[:n])
			// What Open has told stays, whatever comes.
			d.Crash(0)
			opened(t, "behind a crash", d, list[:n])
		}
	}
}

// P4.1: the bytes torn off at each place.
func TestOpenOfTornRecords(t *testing.T) {
	list := messages()
	var all []byte
	for i, m := range list {
		b := recordOf(t, m)
		for cut := range b {
			d := filled(t, append(all[:len(all):len(all)], b[:cut]...), len(all)/2)
			l := opened(t, "torn", d, list[:i])
			if e := l.Write(api.Msg{Kind: 9}); e != api.OK {
				t.Fatalf("Write behind a torn record: %v", e)
			}
			opened(t, "written behind a torn record", d, append(list[:i:i], api.Msg{Kind: 9}))
		}
		all = append(all, b...)
	}
}

// P4.1: each bit of a record turned: neither that one nor any behind it counts.
func TestOpenOfSpoiltRecords(t *testing.T) {
	list := messages()
	first, second, third := recordOf(t, list[0]), recordOf(t, list[1]), recordOf(t, list[3])
	for bit := range 8 * len(second) {
		spoilt := append([]byte(nil), second...)
		spoilt[bit/8] ^= 1 << (bit % 8)
		opened(t, "spoilt", filled(t, bytes.Join([][]byte{first, spoilt, third}, nil), 3), list[:1])
	}
	for bit := range 8 * len(first) {
		spoilt := append([]byte(nil), first...)
		spoilt[bit/8] ^= 1 << (bit % 8)
		opened(t, "the first spoilt", filled(t, append(spoilt, second...), len(first)), nil)
	}
}

// P4.1: frames whose payload is no message, and what are no frames.
func TestOpenOfWrongBytes(t *testing.T) {
	list := messages()
	one, two := recordOf(t, list[3]), recordOf(t, list[0])
	zero, _ := code.Encode(api.Msg{})
	for _, wrong := range [][]byte{
		sealed(t, nil),
		sealed(t, []byte("payload")),
		sealed(t, zero[:len(zero)-1]),
		sealed(t, append(zero[:len(zero):len(zero)], 0)),
		sealed(t, append([]byte{128, 0}, zero[1:]...)),
		sealed(t, append(append([]byte(nil), zero[:7]...), 2, 0, 0, 0, 0)),
		sealed(t, append(append([]byte(nil), zero[:8]...), 1, 0, 0, 0)),
		sealed(t, make([]byte, api.MaxFrame)),
		make([]byte, 8),
		make([]byte, 100),
		bytes.Repeat([]byte{255}, 40),
		{7},
		append([]byte{1}, two...),
		zero,
	} {
		opened(t, "wrong bytes at first", filled(t, append(wrong[:len(wrong):len(wrong)], two...), len(wrong)), nil)
		opened(t, "wrong bytes between", filled(t, bytes.Join([][]byte{one, wrong, two}, nil), 0), list[3:4])
		opened(t, "wrong bytes at last", filled(t, bytes.Join([][]byte{one, one, wrong}, nil), len(one)), []api.Msg{list[3], list[3]})
	}
}

// P4.1: a log of as many records as a disk holds.
func TestOpenOfAFullDisk(t *testing.T) {
	d := room(t, 20*500+19)
	l, _ := Open(d)
	var want []api.Msg
	for i := range 500 {
		m := api.Msg{Kind: i % 64}
		want = append(want, m)
		if e := l.Add(m); e != api.OK {
			t.Fatalf("Add of record %d: %v", i, e)
		}
	}
	if l.Add(api.Msg{}) != api.ErrFull || l.Count() != 500 || l.Left() != 19 {
		t.Errorf("Count %d, Left %d", l.Count(), l.Left())
	}
	opened(t, "full", d, want)
}

// P4.2: each record behind the others; durable only by Write and Sync.
func TestAddAndWrite(t *testing.T) {
	d := room(t, 2000)
	l, _ := Open(d)
	var all []byte
	durable := 0
	for i, m := range append(messages(), messages()...) {
		b := recordOf(t, m)
		e := api.OK
		if i%3 == 1 {
			e = l.Write(m)
			durable = len(all) + len(b)
		} else {
			e = l.Add(m)
		}
		all = append(all, b...)
		if e != api.OK || !bytes.Equal(d.Bytes(), all) || d.Durable() != durable || l.Count() != i+1 || l.Left() != 2000-len(all) {
			t.Fatalf("record %d: %v, %x, %d durable, Count %d, Left %d; want %x, %d", i, e, d.Bytes(), d.Durable(), l.Count(), l.Left(), all, durable)
		}
	}
	l.Sync()
	if d.Durable() != len(all) || !bytes.Equal(d.Bytes(), all) || l.Count() != 10 {
		t.Errorf("Sync: %d durable of %d, Count %d", d.Durable(), len(all), l.Count())
	}
	opened(t, "opened again", d, append(messages(), messages()...))
}

// P4.2: what is lost in a crash, and what isn't.
func TestCrashes(t *testing.T) {
	list := messages()
	size := len(recordOf(t, list[0]))
	for keep := -1; keep <= size+1; keep++ {
		d := room(t, 1000)
		l, _ := Open(d)
		l.Write(list[1])
		l.Add(list[0])
		d.Crash(keep)
		want := list[1:2]
		if keep >= size {
			want = []api.Msg{list[1], list[0]}
		}
		opened(t, "behind a crash", d, want)
	}
	d := room(t, 1000)
	l, _ := Open(d)
	l.Add(list[0])
	l.Write(list[1])
	l.Add(list[2])
	l.Sync()
	l.Add(list[3])
	d.Crash(0)
	l = opened(t, "behind a crash", d, list[:3])
	l.Add(list[4])
	d.Crash(-1)
	opened(t, "behind another crash", d, list[:3])
}

// refusals: messages that Encode doesn't take.
func refusals() []api.Msg {
	long := api.Tuple{Relation: strings.Repeat("r", code.MaxText+1)}
	wide := api.Tuple{Object: strings.Repeat("o", code.MaxText)}
	return []api.Msg{
		{Muts: []api.Mutation{{Tuple: long}}},
		{Rows: []api.Row{{}, {Tuple: long}}},
		{Nodes: make([]int, api.MaxList+1)},
		{Pre: make([]api.Condition, api.MaxList+1)},
		{Rows: slices.Repeat([]api.Row{{Tuple: wide}}, 130)},
	}
}

// P4.2, and P2: Encode's error, ahead of Append's; nothing has changed, and nothing is durable by it.
func TestMessagesTooLong(t *testing.T) {
	for _, spare := range []int{0, 5, 100000} {
		d := room(t, 60+spare)
		l, _ := Open(d)
		l.Write(api.Msg{Kind: 1})
		l.Add(api.Msg{Kind: 2})
		l.Add(api.Msg{Kind: 3})
		before := d.Bytes()
		for i, m := range refusals() {
			if e := l.Add(m); e != api.ErrLong {
				t.Errorf("Add of message %d: %v", i, e)
			}
			if e := l.Write(m); e != api.ErrLong {
				t.Errorf("Write of message %d: %v", i, e)
			}
			if !bytes.Equal(d.Bytes(), before) || d.Durable() != 20 || l.Count() != 3 || l.Left() != spare {
				t.Errorf("message %d: %d bytes, %d durable, Count %d, Left %d", i, d.Size(), d.Durable(), l.Count(), l.Left())
			}
		}
	}
}

// P4.2, and P2: Append's error; nothing has changed, and nothing is durable by it.
func TestNoRoom(t *testing.T) {
	for _, m := range messages() {
		size := len(recordOf(t, m))
		for spare := range size {
			d := room(t, 20+spare)
			l, _ := Open(d)
			l.Add(api.Msg{Kind: 5})
			if add, write := l.Add(m), l.Write(m); add != api.ErrFull || write != api.ErrFull {
				t.Errorf("%d bytes left of %d: %v and %v", spare, size, add, write)
			}
			if d.Size() != 20 || d.Durable() != 0 || l.Count() != 1 || l.Left() != spare {
				t.Errorf("%d bytes left: %d bytes, %d durable, Count %d, Left %d", spare, d.Size(), d.Durable(), l.Count(), l.Left())
			}
		}
		d := room(t, 20+size)
		l, _ := Open(d)
		l.Add(api.Msg{Kind: 5})
		if l.Write(m) != api.OK || l.Left() != 0 || l.Count() != 2 || d.Durable() != 20+size {
			t.Errorf("as many bytes left as the record has: Left %d, Count %d, %d durable", l.Left(), l.Count(), d.Durable())
		}
	}
}

// P4.2: the greatest message that there is.
func TestGreatestRecord(t *testing.T) {
	m := api.Msg{Rows: slices.Repeat([]api.Row{{Tuple: api.Tuple{Object: strings.Repeat("o", code.MaxText)}}}, 122)}
	payload, e := code.Encode(m)
	for e == api.OK && len(payload) < api.MaxFrame {
		m.Nodes = append(m.Nodes, 0)
		payload, e = code.Encode(m)
	}
	if e != api.OK || len(payload) != api.MaxFrame {
		t.Fatalf("no message of MaxFrame bytes: %d, %v", len(payload), e)
	}
	d := room(t, api.MaxFrame+8)
	l, _ := Open(d)
	if e := l.Write(m); e != api.OK || l.Left() != 0 {
		t.Fatalf("Write: %v, Left %d", e, l.Left())
	}
	opened(t, "the greatest record", d, []api.Msg{m})
	m.Nodes = append(m.Nodes, 0)
	if e := l.Add(m); e != api.ErrLong {
		t.Errorf("Add of one byte more: %v", e)
	}
}

// P4.1 and P4.2: any calls and crashes, against a list of messages.
func TestManyCalls(t *testing.T) {
	random := rand.New(rand.NewSource(4))
	list := append(messages(), refusals()...)
	for range 200 {
		size := random.Intn(1500)
		d := room(t, size)
		l, _ := Open(d)
		var want []api.Msg
		ends := []int{0} // where the records end
		durable := 0
		for range 40 {
			m := list[random.Intn(len(list))]
			b, wrong := code.Encode(m)
			end := ends[len(ends)-1] + len(b) + 8
			if wrong == api.OK && end > size {
				wrong = api.ErrFull
			}
			switch random.Intn(5) {
			case 0, 1:
				if e := l.Add(m); e != wrong {
					t.Fatalf("Add: %v, want %v", e, wrong)
				}
				if wrong == api.OK {
					want, ends = append(want, m), append(ends, end)
				}
			case 2:
				if e := l.Write(m); e != wrong {
					t.Fatalf("Write: %v, want %v", e, wrong)
				}
				if wrong == api.OK {
					want, ends, durable = append(want, m), append(ends, end), end
				}
			case 3:
				l.Sync()
				durable = ends[len(ends)-1]
			case 4:
				keep := random.Intn(100) - 10
				d.Crash(keep)
				for ends[len(ends)-1] > durable+max(keep, 0) {
					want, ends = want[:len(want)-1], ends[:len(ends)-1]
				}
				l = opened(t, "behind a crash", d, want)
				durable = d.Size()
			}
			if l.Count() != len(want) || l.Left() != size-ends[len(ends)-1] || d.Durable() != durable {
				t.Fatalf("Count %d, Left %d, %d durable; want %d, %d, %d", l.Count(), l.Left(), d.Durable(), len(want), size-ends[len(ends)-1], durable)
			}
		}
		opened(t, "in the end", d, want)
	}
}

// P1: any bytes on a disk are opened, and what is found is what stays.
func FuzzNothingPanics(f *testing.F) {
	zero, _ := frame.Seal(make([]byte, 12))
	for _, b := range [][]byte{nil, {0}, make([]byte, 30), bytes.Repeat([]byte{255}, 30), zero, append(zero, 7), append(zero, zero...)} {
		f.Add(b, 3, int64(-9), "text")
	}
	f.Fuzz(func(t *testing.T, b []byte, keep int, n int64, s string) {
		if len(b) > api.MaxDisk-100 {
			return
		}
		d := filled(t, b, len(b)/2)
		l, records := Open(d)
		if !bytes.HasPrefix(b, d.Bytes()) {
			t.Errorf("Open of %x: %x", b, d.Bytes())
		}
		opened(t, "opened again", d, records)
		m := api.Msg{Kind: keep, Id: n, Rows: []api.Row{{Tuple: api.Tuple{User: s}, Until: n}}}
		if l.Write(m) == api.OK {
			records = append(records, m)
		}
		l.Add(m)
		l.Sync()
		l.Add(m)
		d.Crash(keep)
		if _, again := Open(d); len(again) < len(records) || !same(again[:len(records)], records) {
			t.Errorf("behind a crash: %v, want %v", again, records)
		}
	})
}

// P2: what is handed in is neither changed nor kept.
func TestArgumentsStay(t *testing.T) {
	d := room(t, 1000)
	l, _ := Open(d)
	list, kept := messages(), messages()
	for _, m := range list {
		l.Add(m)
	}
	l.Write(list[0])
	if !reflect.DeepEqual(list, kept) {
		t.Errorf("messages were changed: %v", list)
	}
	scribble(list)
	opened(t, "the messages scribbled on", d, append(kept, kept[0]))
}

// scribble writes into all lists of messages, their spare room too.
func scribble(list []api.Msg) {
	for _, m := range list {
		clear(m.Nodes[:cap(m.Nodes)])
		clear(m.Muts[:cap(m.Muts)])
		clear(m.Pre[:cap(m.Pre)])
		clear(m.Rows[:cap(m.Rows)])
	}
	clear(list[:cap(list)])
}

// P2: what is answered is new memory, its spare room too.
func TestAnswersAreNewMemory(t *testing.T) {
	d := room(t, 1000)
	l, _ := Open(d)
	for _, m := range messages() {
		l.Write(m)
	}
	_, first := Open(d)
	_, second := Open(d)
	scribble(first)
	if !same(second, messages()) {
		t.Error("two answers share memory")
	}
	opened(t, "an answer scribbled on", d, messages())
}
