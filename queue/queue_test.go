package queue

import (
	"math"
	"math/rand"
	"runtime"
	"slices"
	"testing"
	"weak"

	"porter/api"
)

// made: an empty queue.
func made[T any](t *testing.T, size int) *Queue[T] {
	t.Helper()
	q, e := New[T](size)
	if e != api.OK || q == nil {
		t.Fatalf("New(%d): %v, %v", size, q, e)
	}
	return q
}

// with: a queue with some things, and so many lost.
func with[T any](t *testing.T, size, lost int, things ...T) *Queue[T] {
	t.Helper()
	q := made[T](t, size)
	for q.Len() < size {
		q.Put(*new(T))
	}
	q.Put(make([]T, lost)...)
	q.All()
	if q.Put(things...) != len(things) {
		t.Fatalf("no room for %v", things)
	}
	return q
}

// has: does a queue have just these things, and so many lost? They are gone then.
func has[T comparable](t *testing.T, what string, q *Queue[T], lost int, want ...T) {
	t.Helper()
	size := q.Len()
	if list := q.All(); !slices.Equal(list, want) || size != len(want) || q.Lost() != lost || q.Len() != 0 {
		t.Errorf("%s: %v, Len %d, Lost %d, left %d; want %v, lost %d", what, list, size, q.Lost(), q.Len(), want, lost)
	}
}

// P9.1: the sizes that are refused.
func TestSizesThatAreRefused(t *testing.T) {
	for _, size := range []int{math.MinInt, -4096, -1, 0, MaxSize + 1, 8192, 1 << 31, math.MaxInt} {
		if q, e := New[string](size); q != nil || e != api.ErrRange {
			t.Errorf("New(%d): %v, %v", size, q, e)
		}
		if q, e := New[struct{}](size); q != nil || e != api.ErrRange {
			t.Errorf("New(%d) of nothings: %v, %v", size, q, e)
		}
	}
}

// P9.1 and P9.2: there is room for so many things, not for one more, and never for more than that.
func TestRoom(t *testing.T) {
	if MaxSize != 4096 {
		t.Errorf("MaxSize: %d", MaxSize)
	}
	for _, size := range []int{1, 2, 3, 100, 4095, 4096} {
		q := made[int](t, size)
		if q.Len() != 0 || q.Lost() != 0 {
			t.Errorf("size %d: Len %d, Lost %d", size, q.Len(), q.Lost())
		}
		var want []int
		for i := range size {
			want = append(want, i)
			if q.Put(i) != 1 || q.Len() != i+1 || q.Lost() != 0 {
				t.Fatalf("size %d: thing %d, Len %d, Lost %d", size, i, q.Len(), q.Lost())
			}
		}
		for i := range 3 {
			if q.Put(-1) != 0 || q.Len() != size || q.Lost() != i+1 {
				t.Fatalf("size %d: too many, Len %d, Lost %d", size, q.Len(), q.Lost())
			}
		}
		has(t, "full", q, 3, want...)
		// Room is there again, and what was lost stays so.
		if q.Put(want...) != size || q.Put(7, 8) != 0 {
			t.Errorf("size %d: no room", size)
		}
		has(t, "full again", q, 5, want...)
	}
}

// P9.2: the first ones of a list find room, however many that are.
func TestPut(t *testing.T) {
	for _, c := range []struct {
		size     int
		there    []string
		list     []string
		put      int
		expected []string
	}{
		{2, nil, []string{"a", "b", "c"}, 2, []string{"a", "b"}},
		{2, nil, nil, 0, nil}, {2, nil, []string{}, 0, nil}, {2, nil, []string{"a"}, 1, []string{"a"}}, {2, nil, []string{"a", "b"}, 2, []string{"a", "b"}},
		{3, []string{"x"}, []string{"a", "b", "c"}, 2, []string{"x", "a", "b"}},
		{3, []string{"x", "y"}, []string{"a", "b", "c"}, 1, []string{"x", "y", "a"}},
		{3, []string{"x", "y", "z"}, []string{"a", "b", "c"}, 0, []string{"x", "y", "z"}},
		{3, []string{"x", "y", "z"}, nil, 0, []string{"x", "y", "z"}},
		{3, []string{"x"}, []string{"x", "x"}, 2, []string{"x", "x", "x"}},
		{1, nil, []string{"", "a"}, 1, []string{""}},
	} {
		for _, lost := range []int{0, 5} {
			q := with(t, c.size, lost, c.there...)
			if put := q.Put(c.list...); put != c.put || q.Len() != len(c.expected) || q.Lost() != lost+len(c.list)-c.put {
				t.Errorf("Put(%q) behind %q: %d, Len %d, Lost %d", c.list, c.there, put, q.Len(), q.Lost())
			}
			has(t, "put", q, lost+len(c.list)-c.put, c.expected...)
		}
	}
}

// P9.3, and the chapter's example.
func TestTake(t *testing.T) {
	q := made[string](t, 2)
	if q.Put("a", "b", "c") != 2 || q.Lost() != 1 {
		t.Errorf("Put: Len %d, Lost %d", q.Len(), q.Lost())
	}
	for _, want := range []string{"a", "b"} {
		if thing, found := q.Take(); thing != want || !found {
			t.Errorf("Take: %q, %v, want %q", thing, found, want)
		}
	}
	for range 3 {
		if thing, found := q.Take(); thing != "" || found || q.Len() != 0 || q.Lost() != 1 {
			t.Errorf("Take of nothing: %q, %v, Len %d, Lost %d", thing, found, q.Len(), q.Lost())
		}
	}
	// Round and round: the first one is always that which stands there for longest.
	q.Put("0")
	for i := range 100 {
		q.Put(string(rune('1' + i)))
		if thing, found := q.Take(); thing != string(rune('0'+i)) || !found || q.Len() != 1 {
			t.Fatalf("turn %d: %q, %v", i, thing, found)
		}
	}
	if q.Lost() != 1 {
		t.Errorf("Lost: %d", q.Lost())
	}
}

// P9.3: a thing that is a zero value is a thing.
func TestThingsThatAreZeroValues(t *testing.T) {
	pointers, faces, lists, nothings := made[*int](t, 2), made[any](t, 2), made[[]int](t, 2), made[struct{}](t, 2)
	if pointers.Put(nil, nil, nil) != 2 || faces.Put(nil, nil, nil) != 2 || lists.Put(nil, nil, nil) != 2 || nothings.Put(make([]struct{}, 3)...) != 2 {
		t.Error("Put of zero values")
	}
	for i := range 3 {
		a, found := pointers.Take()
		b, face := faces.Take()
		c, list := lists.Take()
		_, nothing := nothings.Take()
		if want := i < 2; a != nil || b != nil || c != nil || found != want || face != want || list != want || nothing != want {
			t.Errorf("Take %d of zero values: %v, %v, %v, %v", i, found, face, list, nothing)
		}
	}
	var none []any
	if faces.Put(none...) != 0 || faces.Put(1, nil, 2) != 2 {
		t.Error("Put of things of any types")
	}
	has(t, "things of any types", faces, 2, 1, nil)
}

// P9.1 to P9.4: things of great types, greater than what a channel takes too.
func TestGreatThings(t *testing.T) {
	type great [1 << 17]byte
	a, b := made[great](t, 2), made[great](t, MaxSize)
	if a.Put(great{1}, great{2}, great{3}) != 2 || a.Lost() != 1 || Pour(a, b) != 2 || b.Put(great{4}) != 1 {
		t.Error("Put of great things")
	}
	if thing, found := b.Take(); thing[0] != 1 || !found {
		t.Errorf("Take: %d, %v", thing[0], found)
	}
	if list := b.All(); len(list) != 2 || list[0] != (great{2}) || list[1] != (great{4}) {
		t.Errorf("All: %d great things", len(list))
	}
}

// P9.3
func TestAll(t *testing.T) {
	q := with(t, 3, 2, 1, 2, 3)
	has(t, "all", q, 2, 1, 2, 3)
	has(t, "all of nothing", q, 2)
	if _, found := q.Take(); found || q.Put(4, 5, 6, 7) != 3 {
		t.Error("All left something")
	}
	q.Take()
	q.Put(8)
	has(t, "all again", q, 3, 5, 6, 8)
	has(t, "all of a new one", made[int](t, 1), 0)
}

// P9.4: as many go as from has and as to has room for; none of them is lost.
func TestPour(t *testing.T) {
	for have := range 5 {
		for there := range 5 {
			for free := range 5 {
				from, to := with(t, 5, 3, []int{1, 2, 3, 4}[:have]...), with(t, max(there+free, 1), 4, []int{11, 12, 13, 14}[:there]...)
				went := min(have, max(there+free, 1)-there)
				if n := Pour(from, to); n != went || from.Len() != have-went || to.Len() != there+went {
					t.Errorf("Pour of %d to %d with room for %d: %d, left %d, there %d", have, there, free, n, from.Len(), to.Len())
				}
				if more := Pour(from, to); more != 0 {
					t.Errorf("%d more went", more)
				}
				has(t, "poured from", from, 3, []int{1, 2, 3, 4}[went:have]...)
				has(t, "poured to", to, 4, append([]int{11, 12, 13, 14}[:there:there], []int{1, 2, 3, 4}[:went]...)...)
			}
		}
	}
}

// P9.4: to and fro, and as many as there can be.
func TestPourOfMany(t *testing.T) {
	a, b := made[int](t, MaxSize), made[int](t, MaxSize-1)
	var want []int
	for i := range MaxSize {
		want = append(want, i)
	}
	a.Put(want...)
	if Pour(a, b) != MaxSize-1 || Pour(b, a) != MaxSize-1 || a.Len() != MaxSize || b.Len() != 0 {
		t.Errorf("Len %d and %d", a.Len(), b.Len())
	}
	has(t, "to and fro", a, 0, append([]int{MaxSize - 1}, want[:MaxSize-1]...)...)
}

// P1: a queue that is poured into itself ends, whether it has room or not; nothing of it is lost.
func TestPourIntoItself(t *testing.T) {
	for _, things := range [][]int{nil, {1}, {1, 2}, {1, 2, 3}} {
		q := with(t, 3, 2, things...)
		if n := Pour(q, q); n != 0 {
			t.Errorf("%d of %v went", n, things)
		}
		has(t, "poured into itself", q, 2, things...)
	}
}

// P2: what is handed in is neither changed nor kept, and what is answered is new memory.
func TestMemory(t *testing.T) {
	q := made[int](t, 4)
	list := []int{1, 2, 3, 4, 5, 6}
	q.Put(list[:3]...)
	if !slices.Equal(list, []int{1, 2, 3, 4, 5, 6}) {
		t.Errorf("changed: %v", list)
	}
	clear(list)
	first := q.All()
	if !slices.Equal(first, []int{1, 2, 3}) {
		t.Errorf("kept: %v", first)
	}
	q.Put(7, 8)
	clear(first[:cap(first)])
	second := q.All()
	q.Put(9, 9, 9, 9)
	if !slices.Equal(second, []int{7, 8}) {
		t.Errorf("an answer is kept: %v", second)
	}
	clear(second[:cap(second)])
	has(t, "scribbled on", q, 0, 9, 9, 9, 9)
}

// Of what is gone, or was never taken in, nothing is kept.
func TestNothingIsKeptOfWhatIsGone(t *testing.T) {
	q := made[*[100]int](t, 3)
	var seen []weak.Pointer[[100]int]
	for range 5 {
		thing := new([100]int)
		seen = append(seen, weak.Make(thing))
		q.Put(thing)
	}
	q.Take()
	q.All()
	runtime.GC()
	for i, x := range seen {
		if x.Value() != nil {
			t.Errorf("thing %d is kept", i)
		}
	}
	runtime.KeepAlive(q)
}

// model is a queue as P9.1 to P9.4 tell it, told once more in a plainer way.
type model struct {
	size, lost int
	things     []byte
}

func (m *model) put(list []byte) int {
	stand := 0
	for _, thing := range list {
		if len(m.things) < m.size {
			m.things = append(m.things, thing)
			stand++
		} else {
			m.lost++
		}
	}
	return stand
}

func (m *model) take() (byte, bool) {
	if len(m.things) == 0 {
		return 0, false
	}
	thing := m.things[0]
	m.things = slices.Clone(m.things[1:])
	return thing, true
}

func (m *model) pour(to *model) int {
	went := 0
	for m != to && len(m.things) > 0 && len(to.things) < to.size {
		thing, _ := m.take()
		went += to.put([]byte{thing})
	}
	return went
}

// play: any calls of two queues, as some bytes say, against their models.
func play(t *testing.T, sizes [2]int, calls []byte) {
	t.Helper()
	var queues [2]*Queue[byte]
	var models [2]*model
	for i, size := range sizes {
		queues[i], models[i] = made[byte](t, size), &model{size: size}
	}
	for i := 0; i < len(calls); i++ {
		at := calls[i] >> 3 & 1
		q, m := queues[at], models[at]
		switch calls[i] & 7 {
		case 0:
			thing, found := q.Take()
			if want, there := m.take(); thing != want || found != there {
				t.Fatalf("call %d: Take: %d, %v, want %d, %v", i, thing, found, want, there)
			}
		case 1:
			if list := q.All(); !slices.Equal(list, m.things) {
				t.Fatalf("call %d: All: %v, want %v", i, list, m.things)
			}
			m.things = nil
		case 2:
			if went, want := Pour(q, queues[1-at]), m.pour(models[1-at]); went != want {
				t.Fatalf("call %d: Pour: %d, want %d", i, went, want)
			}
		case 3:
			if went, want := Pour(q, q), m.pour(m); went != want {
				t.Fatalf("call %d: Pour into itself: %d, want %d", i, went, want)
			}
		default:
			list := calls[i+1 : min(i+1+int(calls[i]>>4), len(calls))]
			i += len(list)
			if put, want := q.Put(list...), m.put(list); put != want {
				t.Fatalf("call %d: Put(%v): %d, want %d", i, list, put, want)
			}
		}
		for j, q := range queues {
			if q.Len() != len(models[j].things) || q.Lost() != models[j].lost {
				t.Fatalf("call %d: queue %d: Len %d, Lost %d, want %d, %d", i, j, q.Len(), q.Lost(), len(models[j].things), models[j].lost)
			}
		}
	}
}

// P9.1 to P9.4, and P2: any calls, one behind the other.
func TestAnyCalls(t *testing.T) {
	r := rand.New(rand.NewSource(9))
	for range 2000 {
		calls := make([]byte, r.Intn(200))
		r.Read(calls)
		play(t, [2]int{1 + r.Intn(20), 1 + r.Intn(5)}, calls)
	}
}

// P1, and what holds of all queues.
func FuzzNothingPanics(f *testing.F) {
	f.Add(2, 3, []byte{0x35, 'a', 'b', 'c', 2, 0, 9})
	f.Add(1, MaxSize, []byte{0xff, 1, 2, 3})
	f.Add(0, math.MinInt, []byte{})
	f.Fuzz(func(t *testing.T, a, b int, calls []byte) {
		for _, size := range []int{a, b} {
			if q, e := New[byte](size); (e == api.OK) != (size >= 1 && size <= MaxSize) || (q == nil) != (e == api.ErrRange) {
				t.Errorf("New(%d): %v, %v", size, q, e)
			}
		}
		play(t, [2]int{1 + a&15, 1 + b&15}, calls)
	})
}
