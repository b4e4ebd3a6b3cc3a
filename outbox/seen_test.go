package outbox

import (
	"math"
	"math/rand"
	"runtime"
	"slices"
	"testing"
	"weak"

	"porter/api"
	"porter/cache"
)

// none: nothing seen yet.
func none[K comparable](t *testing.T, size int) *Seen[K] {
	t.Helper()
	s, e := NewSeen[K](size)
	if e != api.OK || s == nil {
		t.Fatalf("NewSeen(%d): %v, %v", size, s, e)
	}
	return s
}

// P13.4: the sizes that are refused are the cache's.
func TestSizesOfSeen(t *testing.T) {
	for _, size := range []int{math.MinInt, -1, 0, 1, 2, 4095, 4096, 4097, 8192, 1 << 31, math.MaxInt} {
		_, want := cache.New[string, int](size)
		s, e := NewSeen[string](size)
		if e != want || (e == api.OK) != (size >= 1 && size <= 4096) || (s == nil) != (e != api.OK) {
			t.Errorf("NewSeen(%d): %v, %v, want %v", size, s, e, want)
		}
	}
}

// P13.4: so many keys are remembered, never more: those that were used last.
func TestHowManyAreRemembered(t *testing.T) {
	for _, size := range []int{1, 2, 3, 100, 4095, 4096} {
		s := none[int](t, size)
		for key := range 2*size + 1 {
			if !s.First(key) || s.First(key) {
				t.Fatalf("size %d: key %d", size, key)
			}
		}
		for key := range 2*size + 1 {
			want := 0
			if key > size {
				want = 2
			}
			if times := s.Times(key); times != want {
				t.Fatalf("size %d: key %d came %d times, want %d", size, key, times, want)
			}
		}
	}
}

// P13.4: what comes in, and how often it did: a letter is a First, told as + or -; ? and a letter a Times, told as a digit.
func TestFirstAndTimes(t *testing.T) {
	for _, x := range []struct {
		size        int
		calls, want string
	}{
		{2, "aa?a?b", "+-20"},
		{2, "?a", "0"},
		{2, "?aa?a", "0+1"},
		{2, "aba?a?b", "++-21"},
		{9, "abcabcaaa?a?b?c?d", "+++------5220"},
		// One too many: the one that wasn't used for longest is forgotten, and begins anew.
		{1, "ab?a?b", "++01"},
		{1, "aaba?a", "+-++1"},
		{2, "abc?a?b?c", "+++011"},
		{2, "aabca?a", "+-+++1"},
		// Both use the key.
		{2, "abac?b?a?c", "++-+021"},
		{2, "ab?ac?b?a?c", "++1+011"},
		{2, "ab?a?bc?a?b", "++11+01"},
		{3, "abc?ad?b?a?c?d", "+++1+0111"},
		{3, "abcbd?a?b?c?d", "+++-+0211"},
		// A key that isn't remembered isn't then either, and no other is forgotten for it.
		{2, "ab?c?d?c?a?b?c", "++000110"},
		{1, "a?b?ca", "+00-"},
		{2, "ab?cd?a?b", "++0+01"},
	} {
		s := none[string](t, x.size)
		text := ""
		for i := 0; i < len(x.calls); i++ {
			switch {
			case x.calls[i] == '?':
				i++
				text += string(rune('0' + s.Times(x.calls[i:i+1])))
			case s.First(x.calls[i : i+1]):
				text += "+"
			default:
				text += "-"
			}
		}
		if text != x.want {
			t.Errorf("size %d, %s: %q, want %q", x.size, x.calls, text, x.want)
		}
	}
}

// P13.4: a key that comes in again and again.
func TestManyTimes(t *testing.T) {
	s := none[string](t, 1)
	for i := range 100000 {
		if first := s.First(""); first != (i == 0) {
			t.Fatalf("time %d: %v", i, first)
		}
	}
	if times := s.Times(""); times != 100000 || s.Times("") != times {
		t.Errorf("%d times", times)
	}
}

// P1 and P13.4: keys that aren't equal to themselves, and keys that can't be compared, are never remembered so that they are found.
func TestKeysThatAreNeverRemembered(t *testing.T) {
	for _, key := range []any{math.NaN(), []int{1}, map[int]int{}, func() {}, [2]any{1, []int{}}} {
		s := none[any](t, 2)
		s.First("a")
		if !s.First(key) || s.Times(key) != 0 || s.Times("a") != 1 || !s.First(key) || s.Times("a") != 1 {
			t.Errorf("%T is remembered", key)
		}
	}
	s := none[float64](t, 2)
	if !s.First(0) || s.First(math.Copysign(0, -1)) || s.Times(0) != 2 {
		t.Error("-0 isn't 0")
	}
	nothing := none[any](t, 2)
	if !nothing.First(nil) || nothing.First(nil) || nothing.Times(nil) != 2 || nothing.Times(0) != 0 {
		t.Error("nil")
	}
}

// P2: what is forgotten isn't kept, and two have nothing in common.
func TestNothingIsKeptOfWhatIsForgotten(t *testing.T) {
	s, other := none[*[50]int](t, 3), none[*[50]int](t, 3)
	var keys []weak.Pointer[[50]int]
	for range 9 {
		key := new([50]int)
		keys = append(keys, weak.Make(key))
		s.First(key)
		if other.Times(key) != 0 {
			t.Error("another one has seen it")
		}
	}
	runtime.GC()
	for i, key := range keys {
		if (key.Value() != nil) != (i >= 6) {
			t.Errorf("key %d is kept: %v", i, key.Value() != nil)
		}
	}
	runtime.KeepAlive(s)
	runtime.KeepAlive(other)
}

// playSeen: any calls, as some bytes say, against what P13.4 tells, told once more in a plainer way: keys with how often they came in, the one that was used last at the end.
func playSeen(t *testing.T, size int, calls []byte) {
	t.Helper()
	s := none[byte](t, size)
	type pair struct {
		key   byte
		times int
	}
	var plain []pair
	for i, call := range calls {
		key := call & 15
		x := pair{key, 0}
		at := slices.IndexFunc(plain, func(x pair) bool { return x.key == key })
		if at >= 0 {
			x = plain[at]
			plain = slices.Concat(plain[:at], plain[at+1:], plain[at:at+1])
		}
		if call&16 == 0 {
			if times := s.Times(key); times != x.times {
				t.Fatalf("call %d: Times(%d): %d, want %d", i, key, times, x.times)
			}
			continue
		}
		if first := s.First(key); first != (at < 0) {
			t.Fatalf("call %d: First(%d): %v", i, key, first)
		}
		if at >= 0 {
			plain = plain[:len(plain)-1]
		}
		plain = append(plain, pair{key, x.times + 1})
		plain = plain[max(0, len(plain)-size):]
	}
}

// P13.4: any calls, one behind the other.
func TestAnyCallsOfSeen(t *testing.T) {
	r := rand.New(rand.NewSource(134))
	for range 2000 {
		calls := make([]byte, r.Intn(300))
		r.Read(calls)
		playSeen(t, 1+r.Intn(16), calls)
	}
}
