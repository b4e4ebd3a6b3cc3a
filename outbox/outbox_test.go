package outbox

import (
	"math"
	"math/rand"
	"runtime"
	"slices"
	"strconv"
	"strings"
	"testing"
	"weak"

	"porter/api"
)

// made: an empty outbox.
func made[K comparable, V any](t *testing.T, period, size int) *Outbox[K, V] {
	t.Helper()
	o, e := New[K, V](period, size)
	if e != api.OK || o == nil {
		t.Fatalf("New(%d, %d): %v, %v", period, size, o, e)
	}
	return o
}

// with: an outbox with some things, put one behind the other; the value of each is the key's byte.
func with(t *testing.T, period, size int, keys string) *Outbox[string, int] {
	t.Helper()
	o := made[string, int](t, period, size)
	for _, key := range keys {
		if e := o.Put(string(key), int(key)); e != api.OK {
			t.Fatalf("Put(%q): %v", key, e)
		}
	}
	return o
}

// has: are these the keys of an outbox, in their row?
func has(t *testing.T, what string, o *Outbox[string, int], want string) {
	t.Helper()
	if keys := strings.Join(o.Keys(), ""); keys != want || o.Len() != len(want) {
		t.Errorf("%s: %q, Len %d, want %q", what, keys, o.Len(), want)
	}
}

// due: are these due now?
func due(t *testing.T, what string, o *Outbox[string, int], want ...int) {
	t.Helper()
	if values := o.Tick(); !slices.Equal(values, want) {
		t.Errorf("%s: %v, want %v", what, values, want)
	}
}

// P13.1: the periods and sizes that are refused.
func TestWhatIsRefused(t *testing.T) {
	wrong := []int{math.MinInt, -1000, -1, 0, 1 << 31, math.MaxInt}
	for _, x := range wrong {
		for _, y := range append([]int{1, 2, 1000}, wrong...) {
			if o, e := New[string, int](x, y); o != nil || e != api.ErrRange {
				t.Errorf("New(%d, %d): %v, %v", x, y, o, e)
			}
			if o, e := New[struct{}, struct{}](y, x); o != nil || e != api.ErrRange {
				t.Errorf("New(%d, %d): %v, %v", y, x, o, e)
			}
		}
	}
	for _, x := range [][2]int{{MaxPeriod + 1, 1}, {MaxSize, 1}, {1, MaxSize + 1}, {MaxPeriod, 8192}, {MaxPeriod + 1, MaxSize + 1}} {
		if o, e := New[int, int](x[0], x[1]); o != nil || e != api.ErrRange {
			t.Errorf("New(%d, %d): %v, %v", x[0], x[1], o, e)
		}
	}
}

// P13.1 and P13.2: so many things are taken, and no more.
func TestSizes(t *testing.T) {
	if MaxPeriod != 1000 || MaxSize != 4096 {
		t.Errorf("MaxPeriod %d, MaxSize %d", MaxPeriod, MaxSize)
	}
	for _, size := range []int{1, 2, 3, 100, 1001, 4095, 4096} {
		o := made[int, int](t, MaxPeriod, size)
		if o.Len() != 0 || len(o.Keys()) != 0 || len(o.Tick()) != 0 {
			t.Errorf("size %d: Len %d, %v", size, o.Len(), o.Keys())
		}
		for i := range size {
			if e := o.Put(i, -i); e != api.OK || o.Len() != i+1 {
				t.Fatalf("size %d: thing %d: %v, Len %d", size, i, e, o.Len())
			}
		}
		if e := o.Put(size, 1); e != api.ErrFull || o.Len() != size {
			t.Errorf("size %d: one more: %v, Len %d", size, e, o.Len())
		}
		keys, values := o.Keys(), o.Tick()
		for i := range size {
			if len(keys) != size || len(values) != size || keys[i] != i || values[i] != -i {
				t.Fatalf("size %d: %v, %v", size, keys, values)
			}
		}
	}
}

// P13.2, and P2: where a thing stands, and which ones find room.
func TestPut(t *testing.T) {
	for _, x := range []struct {
		size       int
		there, key string
		e          api.Errno
		keys       string
	}{
		{1, "", "a", api.OK, "a"}, {1, "a", "a", api.OK, "a"}, {1, "a", "b", api.ErrFull, "a"}, {1, "a", "", api.ErrFull, "a"},
		{3, "ab", "c", api.OK, "abc"}, {3, "ba", "c", api.OK, "bac"}, {3, "ab", "a", api.OK, "ab"}, {3, "ab", "b", api.OK, "ab"},
		{3, "abc", "a", api.OK, "abc"}, {3, "abc", "b", api.OK, "abc"}, {3, "abc", "c", api.OK, "abc"}, {3, "abc", "d", api.ErrFull, "abc"}, {3, "cba", "d", api.ErrFull, "cba"},
	} {
		o := with(t, 1, x.size, x.there)
		if e := o.Put(x.key, 7); e != x.e {
			t.Errorf("%q put behind %q: %v, want %v", x.key, x.there, e, x.e)
		}
		has(t, "put "+x.key+" behind "+x.there, o, x.keys)
		var values []int
		for _, key := range x.keys {
			if string(key) == x.key {
				key = 7
			}
			values = append(values, int(key))
		}
		due(t, "put "+x.key+" behind "+x.there, o, values...)
	}
}

// P13.2
func TestAck(t *testing.T) {
	for _, x := range []struct {
		there, key string
		was        bool
		left       string
	}{
		{"", "a", false, ""}, {"a", "a", true, ""}, {"a", "b", false, "a"}, {"a", "", false, "a"},
		{"abcd", "a", true, "bcd"}, {"abcd", "b", true, "acd"}, {"abcd", "d", true, "abc"}, {"abcd", "e", false, "abcd"}, {"dbca", "c", true, "dba"}, {"abcd", "ab", false, "abcd"},
	} {
		o := with(t, 1, 4, x.there)
		if was := o.Ack(x.key); was != x.was {
			t.Errorf("Ack of %q of %q: %v", x.key, x.there, was)
		}
		has(t, "Ack of "+x.key, o, x.left)
		if o.Ack(x.key) {
			t.Errorf("Ack of %q of %q again", x.key, x.there)
		}
		has(t, "Ack of "+x.key+" again", o, x.left)
		var values []int
		for _, key := range x.left {
			values = append(values, int(key))
		}
		due(t, "Ack of "+x.key, o, values...)
	}
}

// P13.2: what is gone makes room, and stands behind the others when it is put again.
func TestRoomByAck(t *testing.T) {
	o := with(t, 1, 3, "abc")
	o.Ack("a")
	if e := o.Put("a", 1); e != api.OK {
		t.Errorf("Put of what is gone: %v", e)
	}
	has(t, "put again", o, "bca")
	o.Ack("c")
	if e := o.Put("d", 2); e != api.OK {
		t.Errorf("Put into the room of another: %v", e)
	}
	if e := o.Put("c", 3); e != api.ErrFull {
		t.Errorf("full again: %v", e)
	}
	has(t, "full again", o, "bad")
	due(t, "full again", o, 'b', 1, 2)
}

// told: what Tick answers in a row of calls: a letter is a Put of that key, whose value is the letter and which Put it is; - and a letter an Ack; a dot a Tick, of which a comma is told, and its values ahead.
func told(t *testing.T, period int, calls string) string {
	t.Helper()
	o := made[string, string](t, period, 9)
	text, puts := "", 0
	for i := 0; i < len(calls); i++ {
		switch calls[i] {
		case '.':
			text += strings.Join(o.Tick(), "") + ","
		case '-':
			i++
			if !o.Ack(calls[i : i+1]) {
				t.Errorf("%s: %q isn't there at %d", calls, calls[i], i)
			}
		default:
			puts++
			if e := o.Put(calls[i:i+1], calls[i:i+1]+strconv.Itoa(puts)); e != api.OK {
				t.Errorf("%s: Put at %d: %v", calls, i, e)
			}
		}
	}
	return text
}

// P13.3: new things, those that were put anew, and those that are gone.
func TestTick(t *testing.T) {
	for _, x := range []struct {
		period      int
		calls, want string
	}{
		{2, "...", ",,,"},
		{2, "a...-a..", "a1,,a1,,,"},
		{1, "a...", "a1,a1,a1,"},
		{3, "a.......", "a1,,,a1,,,a1,"},
		{3, "..a....", ",,a1,,,a1,"},
		// Each has a period of its own, and all are told in their row.
		{3, "ab.....", "a1b2,,,a1b2,,"},
		{3, "a.b......", "a1,b2,,a1,b2,,a1,"},
		{2, "a.b..c...", "a1,b2,a1,b2c3,a1,b2c3,"},
		{1, "cba..", "c1b2a3,c1b2a3,"},
		// Put anew: in its place, new, with another value.
		{3, "a.a.....", "a1,a2,,,a2,,"},
		{3, "a..a....", "a1,,a2,,,a2,"},
		{3, "a...a...", "a1,,,a2,,,"},
		{3, "aa...", "a2,,,"},
		{3, "ab.a....", "a1b2,a3,,b2,a3,"},
		{2, "ab.a..", "a1b2,a3,b2,"},
		{2, "ab..a.", "a1b2,,a3b2,"},
		{1, "abcb..", "a1b4c3,a1b4c3,"},
		// Gone, and put again: behind the others, and new.
		{3, "ab.-a...", "a1b2,,,b2,"},
		{3, "ab.-aa...", "a1b2,a3,,b2,"},
		{2, "ab.-aa...", "a1b2,a3,b2,a3,"},
		{1, "abc-b..", "a1c3,a1c3,"},
		{1, "abc-aa..", "b2c3a4,b2c3a4,"},
		{2, "a-a..", ",,"},
	} {
		if text := told(t, x.period, x.calls); text != x.want {
			t.Errorf("period %d, %s: %q, want %q", x.period, x.calls, text, x.want)
		}
	}
}

// P13.3: a thing is due at the next Tick and at every period-th one, whenever it was put.
func TestPeriods(t *testing.T) {
	for _, period := range []int{1, 2, 3, 7, 999, 1000} {
		o := made[int, int](t, period, 5)
		for tick := range 3*period + 10 {
			if tick < 10 && tick%2 == 0 {
				o.Put(tick, tick)
			}
			var want []int
			for since := range min(tick+1, 10) {
				if since%2 == 0 && (tick-since)%period == 0 {
					want = append(want, since)
				}
			}
			if values := o.Tick(); !slices.Equal(values, want) {
				t.Fatalf("period %d, tick %d: %v, want %v", period, tick, values, want)
			}
		}
	}
}

// P13.3, and P2: nothing but Put, Ack and Tick changes when a thing is due.
func TestRefusedCallsChangeNothing(t *testing.T) {
	o := with(t, 3, 2, "ab")
	idle := func() {
		if o.Put("c", 1) != api.ErrFull || o.Ack("c") || o.Ack("") {
			t.Error("a call isn't refused")
		}
		has(t, "refused", o, "ab")
	}
	idle()
	due(t, "first", o, 'a', 'b')
	idle()
	due(t, "second", o)
	idle()
	due(t, "third", o)
	idle()
	due(t, "fourth", o, 'a', 'b')
	if len(o.index) != 2 {
		t.Errorf("%d found", len(o.index))
	}
}

// P13.1 to P13.3: zero keys and zero values are keys and values.
func TestZeroKeysAndValues(t *testing.T) {
	o := made[*int, []int](t, 1, 2)
	if e := o.Put(nil, nil); e != api.OK || o.Len() != 1 || len(o.Tick()) != 1 || !o.Ack(nil) || o.Ack(nil) || o.Len() != 0 {
		t.Errorf("nil: %v, Len %d", e, o.Len())
	}
	nothing := made[struct{}, struct{}](t, 1, 2)
	nothing.Put(struct{}{}, struct{}{})
	nothing.Put(struct{}{}, struct{}{})
	if nothing.Len() != 1 || len(nothing.Keys()) != 1 || len(nothing.Tick()) != 1 || !nothing.Ack(struct{}{}) {
		t.Errorf("nothings: Len %d", nothing.Len())
	}
	type great [1 << 17]byte
	wide := made[great, great](t, 1, 2)
	wide.Put(great{1}, great{2})
	wide.Put(great{3}, great{4})
	wide.Put(great{1}, great{5})
	if values := wide.Tick(); len(values) != 2 || values[0] != (great{5}) || values[1] != (great{4}) || !wide.Ack(great{1}) || wide.Len() != 1 {
		t.Errorf("%d values, Len %d", len(values), wide.Len())
	}
}

// P1, P13.2 and P13.3: keys that aren't equal to themselves are no key that is there, so that none is replaced or gone.
func TestKeysThatAreNeverFound(t *testing.T) {
	o := made[float64, int](t, 2, 3)
	o.Put(1, 1)
	for i := range 2 {
		if e := o.Put(math.NaN(), 2+i); e != api.OK || o.Ack(math.NaN()) || o.Len() != i+2 {
			t.Errorf("NaN %d: %v, Len %d", i, e, o.Len())
		}
	}
	if e := o.Put(math.NaN(), 9); e != api.ErrFull || o.Put(1, 4) != api.OK {
		t.Errorf("full: %v", e)
	}
	if values := o.Tick(); !slices.Equal(values, []int{4, 2, 3}) || len(o.Tick()) != 0 {
		t.Errorf("%v", values)
	}
	if keys := o.Keys(); len(keys) != 3 || keys[0] != 1 || keys[1] == keys[1] || keys[2] == keys[2] {
		t.Errorf("%v", keys)
	}
	if !o.Ack(1) || o.Put(0, 5) != api.OK || o.Put(math.Copysign(0, -1), 6) != api.OK || !slices.Equal(o.Tick(), []int{2, 3, 6}) {
		t.Errorf("-0: %v", o.Keys())
	}
}

// P1: keys behind interfaces that can't be compared.
func TestKeysThatCantBeCompared(t *testing.T) {
	type pair struct {
		a, b any
	}
	for _, key := range []any{[]int{1}, map[int]int{}, func() {}, pair{1, []int{}}, pair{math.NaN(), []int{}}, [2]any{1, map[int]int{}}} {
		o := made[any, int](t, 1, 3)
		o.Put("a", 1)
		if o.Put(key, 2) != api.OK || o.Put(key, 3) != api.OK || o.Put(key, 4) != api.ErrFull || o.Ack(key) || !slices.Equal(o.Tick(), []int{1, 2, 3}) {
			t.Errorf("%T: Len %d", key, o.Len())
		}
		if !o.Ack("a") || o.Len() != 2 || len(o.Keys()) != 2 || !slices.Equal(o.Tick(), []int{2, 3}) {
			t.Errorf("%T: Len %d", key, o.Len())
		}
	}
	o := made[any, int](t, 1, 9)
	keys := []any{nil, 1, int64(1), "1", pair{1, "a"}, [2]any{1, 2}, new(int), 1.5}
	for i, key := range keys {
		if o.Put(key, i) != api.OK || o.Put(key, -i) != api.OK || o.Len() != i+1 {
			t.Errorf("%v: Len %d", key, o.Len())
		}
	}
	for _, key := range keys {
		if !o.Ack(key) || o.Ack(key) {
			t.Errorf("%v isn't gone once", key)
		}
	}
}

// P2: what is answered is new memory, and two outboxes have nothing in common.
func TestMemory(t *testing.T) {
	o, other := with(t, 1, 3, "abc"), with(t, 1, 3, "abc")
	keys, values := o.Keys(), o.Tick()
	again, more := o.Keys(), o.Tick()
	clear(keys[:cap(keys)])
	clear(values[:cap(values)])
	if !slices.Equal(again, []string{"a", "b", "c"}) || !slices.Equal(more, []int{'a', 'b', 'c'}) {
		t.Errorf("two answers share memory: %q, %v", again, more)
	}
	has(t, "scribbled on", o, "abc")
	due(t, "scribbled on", o, 'a', 'b', 'c')
	o.Ack("a")
	o.Put("b", 1)
	o.Put("d", 2)
	if !slices.Equal(again, []string{"a", "b", "c"}) || !slices.Equal(more, []int{'a', 'b', 'c'}) {
		t.Errorf("an answer is kept: %q, %v", again, more)
	}
	has(t, "the other", other, "abc")
	due(t, "the other", other, 'a', 'b', 'c')
}

// P2: of what is gone nothing is kept.
func TestNothingIsKeptOfWhatIsGone(t *testing.T) {
	o := made[*[50]int, *[100]int](t, 2, 9)
	var keys []weak.Pointer[[50]int]
	var values []weak.Pointer[[100]int]
	for range 9 {
		key, value := new([50]int), new([100]int)
		keys, values = append(keys, weak.Make(key)), append(values, weak.Make(value))
		o.Put(key, value)
	}
	for i, key := range o.Keys() {
		if i%3 == 1 {
			o.Put(key, new([100]int))
		} else if i != 3 {
			o.Ack(key)
		}
	}
	runtime.GC()
	for i := range keys {
		if (keys[i].Value() != nil) != (i%3 == 1 || i == 3) || (values[i].Value() != nil) != (i == 3) {
			t.Errorf("thing %d: its key is kept: %v, its value: %v", i, keys[i].Value() != nil, values[i].Value() != nil)
		}
	}
	if o.Len() != 4 || len(o.index) != 4 {
		t.Errorf("Len %d, %d found", o.Len(), len(o.index))
	}
}

// model is an outbox as P13.1 to P13.3 tell it, told once more in a plainer way: all that ever was put, of which some is gone.
type model struct {
	period, size int
	all          []letter
}

type letter struct {
	key, value  byte
	since, ends int // how many ticks it has seen, and whether it is gone
}

// there: what isn't gone.
func (m *model) there() []*letter {
	var list []*letter
	for i := range m.all {
		if m.all[i].ends == 0 {
			list = append(list, &m.all[i])
		}
	}
	return list
}

func (m *model) find(key byte) *letter {
	for _, x := range m.there() {
		if x.key == key {
			return x
		}
	}
	return nil
}

func (m *model) put(key, value byte) api.Errno {
	if x := m.find(key); x != nil {
		x.value, x.since = value, 0
		return api.OK
	}
	if len(m.there()) >= m.size {
		return api.ErrFull
	}
	m.all = append(m.all, letter{key: key, value: value})
	return api.OK
}

func (m *model) ack(key byte) bool {
	x := m.find(key)
	if x != nil {
		x.ends = 1
	}
	return x != nil
}

func (m *model) tick() []byte {
	var values []byte
	for _, x := range m.there() {
		if x.since%m.period == 0 {
			values = append(values, x.value)
		}
		x.since++
	}
	return values
}

func (m *model) keys() []byte {
	var keys []byte
	for _, x := range m.there() {
		keys = append(keys, x.key)
	}
	return keys
}

// play: any calls of an outbox, as some bytes say, against its model.
func play(t *testing.T, period, size int, calls []byte) {
	t.Helper()
	o, m := made[byte, byte](t, period, size), &model{period: period, size: size}
	for i := 0; i+2 < len(calls); i += 3 {
		key, value := calls[i+1]&15, calls[i+2]
		switch calls[i] & 7 {
		case 0, 1:
			if was, want := o.Ack(key), m.ack(key); was != want {
				t.Fatalf("call %d: Ack(%d): %v, want %v", i, key, was, want)
			}
		case 2, 3, 4:
			if values, want := o.Tick(), m.tick(); !slices.Equal(values, want) {
				t.Fatalf("call %d: Tick: %v, want %v", i, values, want)
			}
		default:
			if e, want := o.Put(key, value), m.put(key, value); e != want {
				t.Fatalf("call %d: Put(%d): %v, want %v", i, key, e, want)
			}
		}
		if keys, want := o.Keys(), m.keys(); !slices.Equal(keys, want) || o.Len() != len(want) || len(o.index) != len(want) {
			t.Fatalf("call %d: %v, Len %d, %d found, want %v", i, keys, o.Len(), len(o.index), want)
		}
	}
}

// P13.1 to P13.3, and P2: any calls, one behind the other.
func TestAnyCalls(t *testing.T) {
	r := rand.New(rand.NewSource(13))
	for range 2000 {
		calls := make([]byte, r.Intn(400))
		r.Read(calls)
		play(t, 1+r.Intn(5), 1+r.Intn(16), calls)
	}
}

// P1, and what holds of all outboxes.
func FuzzNothingPanics(f *testing.F) {
	f.Add(2, 2, []byte{7, 1, 1, 2, 0, 0, 7, 2, 2, 7, 3, 3, 2, 0, 0, 0, 1, 0, 7, 3, 3})
	f.Add(MaxPeriod, MaxSize, []byte{7, 1, 1, 2, 0, 0, 7, 1, 2, 2, 0, 0})
	f.Add(math.MinInt, math.MaxInt, []byte{})
	f.Add(0, MaxSize+1, []byte{2, 0, 0})
	f.Fuzz(func(t *testing.T, period, size int, calls []byte) {
		right := period >= 1 && period <= MaxPeriod && size >= 1 && size <= MaxSize
		if o, e := New[string, int](period, size); (e == api.OK) != right || (o == nil) != (e == api.ErrRange) {
			t.Errorf("New(%d, %d): %v, %v", period, size, o, e)
		}
		play(t, 1+period&3, 1+size&15, calls)
		playSeen(t, 1+size&7, calls)
	})
}
