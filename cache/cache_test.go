package cache

import (
	"math"
	"math/rand"
	"runtime"
	"slices"
	"testing"
	"weak"

	"porter/api"
)

// made: an empty cache.
func made[K comparable, V any](t *testing.T, size int) *Cache[K, V] {
	t.Helper()
	c, e := New[K, V](size)
	if e != api.OK || c == nil {
		t.Fatalf("New(%d): %v, %v", size, c, e)
	}
	return c
}

// with: a cache with some keys, of which the last one was used last; the value of each is the key's byte.
func with(t *testing.T, size int, keys string) *Cache[string, int] {
	t.Helper()
	c := made[string, int](t, size)
	for _, key := range keys {
		c.Put(string(key), int(key))
	}
	return c
}

// has: are these the keys of a cache, the one that was used last first?
func has(t *testing.T, what string, c *Cache[string, int], want string) {
	t.Helper()
	keys := ""
	for _, key := range c.Keys() {
		keys += key
	}
	if keys != want || c.Len() != len(want) {
		t.Errorf("%s: %q, Len %d, want %q", what, keys, c.Len(), want)
	}
}

// counts: has Get found a key so often, and so often not?
func counts[K comparable, V any](t *testing.T, what string, c *Cache[K, V], found, missed int) {
	t.Helper()
	if a, b := c.Counts(); a != found || b != missed {
		t.Errorf("%s: Counts: %d, %d, want %d, %d", what, a, b, found, missed)
	}
}

// P10.1: the sizes that are refused.
func TestSizesThatAreRefused(t *testing.T) {
	for _, size := range []int{math.MinInt, -4096, -1, 0, MaxSize + 1, 8192, 1 << 31, math.MaxInt} {
		if c, e := New[string, int](size); c != nil || e != api.ErrRange {
			t.Errorf("New(%d): %v, %v", size, c, e)
		}
		if c, e := New[struct{}, struct{}](size); c != nil || e != api.ErrRange {
			t.Errorf("New(%d) of nothings: %v, %v", size, c, e)
		}
	}
}

// P10.1 and P10.3: so many keys are kept, never more: those that were put last.
func TestSizes(t *testing.T) {
	if MaxSize != 4096 {
		t.Errorf("MaxSize: %d", MaxSize)
	}
	for _, size := range []int{1, 2, 3, 100, 4095, 4096} {
		c := made[int, int](t, size)
		if c.Len() != 0 || len(c.Keys()) != 0 {
			t.Errorf("size %d: Len %d, %v", size, c.Len(), c.Keys())
		}
		for i := range 2*size + 1 {
			c.Put(i, -i)
			if c.Len() != min(i+1, size) {
				t.Fatalf("size %d: Len %d behind key %d", size, c.Len(), i)
			}
		}
		keys := c.Keys()
		if len(keys) != size {
			t.Fatalf("size %d: %d keys", size, len(keys))
		}
		for i, key := range keys {
			if key != 2*size-i {
				t.Fatalf("size %d: key %d is %d", size, i, key)
			}
		}
		for i := range 2*size + 1 {
			if value, there := c.Get(i); there != (i > size) || there && value != -i || !there && value != 0 {
				t.Fatalf("size %d: Get(%d): %d, %v", size, i, value, there)
			}
		}
		counts(t, "all asked for", c, size, size+1)
	}
}

// P10.2: what is found was used last; what isn't changes nothing but the count.
func TestGet(t *testing.T) {
	c := with(t, 4, "abcd")
	has(t, "put", c, "dcba")
	for _, x := range []struct {
		key   string
		there bool
		keys  string
	}{
		{"a", true, "adcb"}, {"a", true, "adcb"}, {"c", true, "cadb"}, {"x", false, "cadb"}, {"b", true, "bcad"}, {"", false, "bcad"}, {"ab", false, "bcad"}, {"d", true, "dbca"},
	} {
		found, missed := c.Counts()
		value, there := c.Get(x.key)
		if there != x.there || there && value != int(x.key[0]) || !there && value != 0 {
			t.Errorf("Get(%q): %d, %v", x.key, value, there)
		}
		has(t, "got "+x.key, c, x.keys)
		if there {
			found++
		} else {
			missed++
		}
		counts(t, "got "+x.key, c, found, missed)
	}
	counts(t, "at last", c, 5, 3)
	if _, there := made[string, int](t, 1).Get("a"); there {
		t.Error("a key of an empty cache")
	}
}

// P10.2: nothing but Get counts.
func TestCounts(t *testing.T) {
	c := with(t, 2, "ab")
	c.Put("a", 1)
	c.Put("c", 1)
	c.Cut(func(key string) bool { return key == "a" })
	c.Keys()
	c.Len()
	counts(t, "nothing asked for", c, 0, 0)
	c.Get("c")
	c.Get("a")
	c.Get("b")
	counts(t, "asked for", c, 1, 2)
	c.Cut(func(string) bool { return true })
	counts(t, "cut", c, 1, 2)
}

// P10.3
func TestPut(t *testing.T) {
	for _, x := range []struct {
		size            int
		there, key, all string
	}{
		{1, "", "a", "a"}, {1, "a", "b", "b"}, {1, "a", "a", "a"},
		{3, "ab", "c", "cba"}, {3, "abc", "d", "dcb"}, {3, "abc", "a", "acb"}, {3, "abc", "b", "bca"}, {3, "abc", "c", "cba"},
		{3, "ab", "a", "ab"}, {3, "ab", "b", "ba"}, {3, "abcd", "a", "adc"},
	} {
		c := with(t, x.size, x.there)
		c.Put(x.key, -7)
		has(t, "put "+x.key+" behind "+x.there, c, x.all)
		if value, there := c.Get(x.key); value != -7 || !there {
			t.Errorf("put %q behind %q: %d, %v", x.key, x.there, value, there)
		}
		for _, key := range x.all[1:] {
			if value, there := c.Get(string(key)); value != int(key) || !there {
				t.Errorf("put %q behind %q: %q has %d, %v", x.key, x.there, key, value, there)
			}
		}
	}
}

// P10.3, and the chapter's example: which key goes hangs on Get and on Put.
func TestWhatGoes(t *testing.T) {
	c := with(t, 2, "ab")
	c.Get("a")
	c.Put("c", 1)
	has(t, "the example", c, "ca")
	counts(t, "the example", c, 1, 0)
	c.Put("a", 2)
	c.Put("d", 3)
	has(t, "put again", c, "da")
	c.Get("c")
	c.Put("e", 4)
	has(t, "asked for in vain", c, "ed")
	c.Cut(func(key string) bool { return key == "e" })
	c.Put("f", 5)
	has(t, "room by a cut", c, "fd")
}

// P10.2 and P10.3: zero keys and zero values are keys and values.
func TestZeroKeysAndValues(t *testing.T) {
	c := made[*int, []int](t, 2)
	c.Put(nil, nil)
	if value, there := c.Get(nil); value != nil || !there || c.Len() != 1 {
		t.Errorf("%v, %v, Len %d", value, there, c.Len())
	}
	nothing := made[struct{}, any](t, 2)
	nothing.Put(struct{}{}, 1)
	nothing.Put(struct{}{}, nil)
	if value, there := nothing.Get(struct{}{}); value != nil || !there || nothing.Len() != 1 {
		t.Errorf("%v, %v, Len %d", value, there, nothing.Len())
	}
	type great [1 << 17]byte
	wide := made[great, great](t, 1)
	wide.Put(great{1}, great{2})
	wide.Put(great{3}, great{4})
	if value, there := wide.Get(great{3}); value != (great{4}) || !there || wide.Len() != 1 {
		t.Errorf("%d, %v, Len %d", value[0], there, wide.Len())
	}
}

// P10.4
func TestCut(t *testing.T) {
	for _, x := range []struct{ there, cut, left string }{
		{"", "", ""}, {"", "ab", ""}, {"a", "", "a"}, {"a", "a", ""}, {"abcd", "", "dcba"}, {"abcd", "abcd", ""}, {"abcd", "a", "dcb"}, {"abcd", "d", "cba"}, {"abcd", "bc", "da"}, {"abcd", "ad", "cb"}, {"abcd", "xay", "dcb"},
	} {
		c := with(t, 4, x.there)
		asked := map[string]int{}
		n := c.Cut(func(key string) bool {
			asked[key]++
			return slices.Contains([]rune(x.cut), rune(key[0]))
		})
		if n != len(x.there)-len(x.left) {
			t.Errorf("Cut of %q from %q: %d", x.cut, x.there, n)
		}
		has(t, "cut", c, x.left)
		for _, key := range x.there {
			_, there := c.Get(string(key))
			if asked[string(key)] != 1 || there != slices.Contains([]rune(x.left), key) {
				t.Errorf("Cut of %q from %q: %q asked for %d times, there: %v", x.cut, x.there, key, asked[string(key)], there)
			}
		}
		if len(asked) != len(x.there) {
			t.Errorf("Cut of %q from %q: asked for %v", x.cut, x.there, asked)
		}
		if n := c.Cut(func(string) bool { return false }); n != 0 {
			t.Errorf("nothing cut: %d", n)
		}
	}
}

// P1 and P10.4: questions that are none, that panic, and that work on the cache which asks them.
func TestQuestionsOfAllKinds(t *testing.T) {
	c := with(t, 4, "abcd")
	if n := c.Cut(nil); n != 0 {
		t.Errorf("no question: %d", n)
	}
	has(t, "no question", c, "dcba")
	asked := 0
	n := c.Cut(func(key string) bool {
		asked++
		if key == "c" || key == "a" {
			panic(key)
		}
		return true
	})
	if n != 2 || asked != 4 {
		t.Errorf("a question that panics: %d of %d", n, asked)
	}
	has(t, "a question that panics", c, "ca")
	type work func(c *Cache[string, int], key string)
	for _, x := range []struct {
		left string
		work work
	}{
		{"db", func(c *Cache[string, int], key string) { c.Keys(); c.Len(); c.Counts(); c.Cut(nil) }},
		{"bd", func(c *Cache[string, int], key string) { c.Get(key) }},
		{"bd", func(c *Cache[string, int], key string) { c.Put(key, 1) }},
		{"lmno", func(c *Cache[string, int], key string) { c.Put(string(rune(key[0]+'l'-'a')), 1) }},
		{"wzy", func(c *Cache[string, int], key string) {
			c.Put("x", 1)
			c.Put("y", 1)
			c.Put("z", 1)
			c.Put("w", 1)
			c.Put(key, 1)
		}},
		{"", func(c *Cache[string, int], key string) { c.Cut(func(string) bool { return true }) }},
		{"db", func(c *Cache[string, int], key string) {
			c.Cut(func(other string) bool { return other == key && key == "c" })
		}},
	} {
		c := with(t, 4, "abcd")
		var asked []string
		n := c.Cut(func(key string) bool {
			asked = append(asked, key)
			x.work(c, key)
			return key == "a" || key == "c" || key == "l"
		})
		slices.Sort(asked)
		if !slices.Equal(asked, []string{"a", "b", "c", "d"}) || n != 2 {
			t.Errorf("%d cut, asked for %q", n, asked)
		}
		has(t, "cut by a question that works", c, x.left)
		goesOn(t, c)
	}
}

// goesOn: are all keys of a cache found, and does it go on keeping as many as it may?
func goesOn(t *testing.T, c *Cache[string, int]) {
	t.Helper()
	for _, key := range c.Keys() {
		if _, there := c.Get(key); !there {
			t.Errorf("%q isn't found", key)
		}
	}
	for _, key := range "123456789" {
		c.Put(string(key), 1)
	}
	has(t, "gone on", c, "987654321"[:c.size])
	if len(c.index) != c.size {
		t.Errorf("%d keys in the index", len(c.index))
	}
}

// P1 and P10.3: keys that aren't equal to themselves are never found, and go as all others do.
func TestKeysThatAreNeverFound(t *testing.T) {
	c := made[float64, int](t, 3)
	for i := range 10 {
		c.Put(math.NaN(), i)
		if _, there := c.Get(math.NaN()); there || c.Len() != min(i+1, 3) || len(c.Keys()) != c.Len() || len(c.index) > 0 {
			t.Fatalf("NaN %d: %v, Len %d, %d found", i, there, c.Len(), len(c.index))
		}
	}
	c.Put(1, 1)
	c.Put(2, 2)
	if keys := c.Keys(); len(keys) != 3 || keys[0] != 2 || keys[1] != 1 || keys[2] == keys[2] {
		t.Errorf("%v", keys)
	}
	if n := c.Cut(func(key float64) bool { return key != key }); n != 1 || !slices.Equal(c.Keys(), []float64{2, 1}) {
		t.Errorf("Cut: %d, %v", n, c.Keys())
	}
	counts(t, "NaN", c, 0, 10)
	c.Put(0, 5)
	if value, there := c.Get(math.Copysign(0, -1)); value != 5 || !there {
		t.Errorf("-0: %d, %v", value, there)
	}
}

// P1: keys behind interfaces that can't be compared.
func TestKeysThatCantBeCompared(t *testing.T) {
	type pair struct {
		a, b any
	}
	for _, key := range []any{[]int{1}, map[int]int{}, func() {}, pair{1, []int{}}, pair{math.NaN(), []int{}}, [2]any{1, map[int]int{}}} {
		c := made[any, int](t, 2)
		c.Put("a", 1)
		c.Put(key, 2)
		if value, there := c.Get(key); value != 0 || there || c.Len() != 2 || len(c.Keys()) != 2 {
			t.Errorf("%T: %d, %v, Len %d", key, value, there, c.Len())
		}
		c.Put("b", 3)
		c.Put(key, 4)
		c.Put(key, 5)
		if c.Len() != 2 || len(c.index) != 0 || c.Cut(func(any) bool { return true }) != 2 || c.Len() != 0 {
			t.Errorf("%T: Len %d, %v", key, c.Len(), c.index)
		}
		counts(t, "a key that can't be compared", c, 0, 1)
	}
	c := made[any, int](t, 9)
	for i, key := range []any{nil, 1, int64(1), "1", pair{1, "a"}, [2]any{1, 2}, new(int), 1.5} {
		c.Put(key, i)
		if value, there := c.Get(key); value != i || !there || c.Len() != i+1 {
			t.Errorf("%v: %d, %v, Len %d", key, value, there, c.Len())
		}
	}
}

// P2: what is answered is new memory, and two caches have nothing in common.
func TestMemory(t *testing.T) {
	c, other := with(t, 3, "abc"), with(t, 3, "abc")
	first, second := c.Keys(), c.Keys()
	clear(first[:cap(first)])
	if !slices.Equal(second, []string{"c", "b", "a"}) {
		t.Errorf("two answers share memory: %q", second)
	}
	has(t, "scribbled on", c, "cba")
	c.Put("d", 1)
	c.Get("b")
	c.Cut(func(key string) bool { return key == "c" })
	if !slices.Equal(second, []string{"c", "b", "a"}) {
		t.Errorf("an answer is kept: %q", second)
	}
	has(t, "the other", other, "cba")
	counts(t, "the other", other, 0, 0)
}

// Of what is gone nothing is kept.
func TestNothingIsKeptOfWhatIsGone(t *testing.T) {
	c := made[*[50]int, *[100]int](t, 3)
	var keys []weak.Pointer[[50]int]
	var values []weak.Pointer[[100]int]
	for i := range 9 {
		key, value := new([50]int), new([100]int)
		key[0] = i
		keys, values = append(keys, weak.Make(key)), append(values, weak.Make(value))
		c.Put(key, new([100]int))
		c.Put(key, value)
	}
	c.Cut(func(key *[50]int) bool { return key[0] == 7 })
	runtime.GC()
	for i := range keys {
		if there := i == 6 || i == 8; (keys[i].Value() != nil) != there || (values[i].Value() != nil) != there {
			t.Errorf("key %d: there should be %v", i, there)
		}
	}
	if c.Len() != 2 || len(c.index) != 2 {
		t.Errorf("Len %d, %d found", c.Len(), len(c.index))
	}
}

// model is a cache as P10.1 to P10.4 tell it, told once more in a plainer way: pairs, the one that was used last first.
type model struct {
	size, found, missed int
	pairs               []pair
}

type pair struct {
	key, value byte
}

func (m *model) take(key byte) (pair, bool) {
	for i, x := range m.pairs {
		if x.key == key {
			m.pairs = slices.Delete(m.pairs, i, i+1)
			return x, true
		}
	}
	return pair{}, false
}

func (m *model) get(key byte) (byte, bool) {
	x, there := m.take(key)
	if !there {
		m.missed++
		return 0, false
	}
	m.found++
	m.pairs = slices.Insert(m.pairs, 0, x)
	return x.value, true
}

func (m *model) put(key, value byte) {
	m.take(key)
	m.pairs = slices.Insert(m.pairs, 0, pair{key, value})
	m.pairs = m.pairs[:min(len(m.pairs), m.size)]
}

func (m *model) cut(gone func(byte) bool) int {
	before := len(m.pairs)
	m.pairs = slices.DeleteFunc(m.pairs, func(x pair) bool { return gone(x.key) })
	return before - len(m.pairs)
}

// play: any calls of a cache, as some bytes say, against its model.
func play(t *testing.T, size int, calls []byte) {
	t.Helper()
	c, m := made[byte, byte](t, size), &model{size: size}
	for i := 0; i+2 < len(calls); i += 3 {
		key := calls[i+1] & 15
		switch calls[i] & 7 {
		case 0:
			gone := func(x byte) bool { return x&key == calls[i+2]&key&15 }
			if n, want := c.Cut(gone), m.cut(gone); n != want {
				t.Fatalf("call %d: Cut: %d, want %d", i, n, want)
			}
		case 1, 2, 3:
			value, there := c.Get(key)
			if want, found := m.get(key); value != want || there != found {
				t.Fatalf("call %d: Get(%d): %d, %v, want %d, %v", i, key, value, there, want, found)
			}
		default:
			c.Put(key, calls[i+2])
			m.put(key, calls[i+2])
		}
		var keys []byte
		for _, x := range m.pairs {
			keys = append(keys, x.key)
		}
		found, missed := c.Counts()
		if list := c.Keys(); !slices.Equal(list, keys) || c.Len() != len(keys) || len(c.index) != len(keys) || found != m.found || missed != m.missed {
			t.Fatalf("call %d: %v, Len %d, Counts %d, %d, want %v, %d, %d", i, list, c.Len(), found, missed, keys, m.found, m.missed)
		}
	}
}

// P10.1 to P10.4, and P2: any calls, one behind the other.
func TestAnyCalls(t *testing.T) {
	r := rand.New(rand.NewSource(10))
	for range 2000 {
		calls := make([]byte, r.Intn(400))
		r.Read(calls)
		play(t, 1+r.Intn(16), calls)
	}
}

// P1, and what holds of all caches.
func FuzzNothingPanics(f *testing.F) {
	f.Add(2, []byte{4, 'a', 1, 4, 'b', 2, 1, 'a', 0, 4, 'c', 3})
	f.Add(MaxSize, []byte{4, 1, 1, 0, 0, 0})
	f.Add(math.MinInt, []byte{})
	f.Fuzz(func(t *testing.T, size int, calls []byte) {
		if c, e := New[string, int](size); (e == api.OK) != (size >= 1 && size <= MaxSize) || (c == nil) != (e == api.ErrRange) {
			t.Errorf("New(%d): %v, %v", size, c, e)
		}
		play(t, 1+size&15, calls)
	})
}
