package frame

import (
	"bytes"
	"encoding/binary"
	"hash/crc32"
	"math/rand"
	"testing"

	"porter/api"
)

// pattern: so many bytes that aren't all alike, with spare room behind them.
func pattern(size int) []byte {
	b := make([]byte, size, size+32)
	for i := range b {
		b[i] = byte(i*i + 7*i + i>>8)
	}
	return b
}

// seal: the frame of a payload that is known to have one.
func seal(t *testing.T, payload []byte) []byte {
	t.Helper()
	b, code := Seal(payload)
	if code != api.OK {
		t.Fatalf("Seal of %d bytes: %v", len(payload), code)
	}
	return b
}

// scribble writes into all that a slice shares, its spare room too.
func scribble(b []byte) {
	b = b[:cap(b)]
	for i := range b {
		b[i] ^= 0xff
	}
}

// P1.1
func TestSumOfKnownTexts(t *testing.T) {
	rising := make([]byte, 32)
	for i := range rising {
		rising[i] = byte(i)
	}
	for _, c := range []struct {
		b    []byte
		want uint32
	}{
		{nil, 0},
		{[]byte{}, 0},
		{[]byte("a"), 0xc1d04330},
		{[]byte("123456789"), 0xe3069283},
		{make([]byte, 32), 0x8a9136aa},
		{bytes.Repeat([]byte{0xff}, 32), 0x62a8ab43},
		{rising, 0x46dd794e},
	} {
		if got := Sum(c.b); got != c.want {
			t.Errorf("Sum(%q) = %08x, want %08x", c.b, got, c.want)
		}
	}
	if got := Sum(); got != 0 {
		t.Errorf("Sum() = %08x", got)
	}
}

// P1.1: against the library's, whatever the bytes are cut into.
func TestSumOfParts(t *testing.T) {
	table := crc32.MakeTable(crc32.Castagnoli)
	random := rand.New(rand.NewSource(1))
	for range 300 {
		b := make([]byte, random.Intn(200))
		random.Read(b)
		want := crc32.Checksum(b, table)
		i := random.Intn(len(b) + 1)
		j := i + random.Intn(len(b)-i+1)
		if Sum(b) != want || Sum(b[:i], b[i:]) != want || Sum(b[:i], nil, b[i:j], []byte{}, b[j:]) != want {
			t.Fatalf("Sum(%x), cut at %d and %d: %08x, want %08x", b, i, j, Sum(b), want)
		}
	}
}

// P1.2
func TestSeal(t *testing.T) {
	table := crc32.MakeTable(crc32.Castagnoli)
	for _, size := range []int{0, 1, 3, 255, 256, 257, api.MaxFrame - 1, api.MaxFrame} {
		payload := pattern(size)
		want := binary.BigEndian.AppendUint32(nil, uint32(size))
		sum := crc32.Checksum(append(want[:4:4], payload...), table)
		want = append(binary.BigEndian.AppendUint32(want, sum), payload...)
		if got := seal(t, payload); !bytes.Equal(got, want) {
			t.Errorf("Seal of %d bytes differs", size)
		}
	}
	for _, size := range []int{api.MaxFrame + 1, 2 * api.MaxFrame, 1 << 20} {
		if b, code := Seal(make([]byte, size)); code != api.ErrLong || len(b) != 0 {
			t.Errorf("Seal of %d bytes: %d bytes, %v", size, len(b), code)
		}
	}
}

// P1.3
func TestOpen(t *testing.T) {
	for _, size := range []int{0, 1, 3, 255, 256, api.MaxFrame} {
		payload := pattern(size)
		b := seal(t, payload)
		for _, behind := range [][]byte{nil, {0}, {1, 2, 3}, b} {
			got, n, code := Open(append(b[:len(b):len(b)], behind...))
			if code != api.OK || n != 8+size || !bytes.Equal(got, payload) {
				t.Errorf("Open of the frame of %d bytes, %d behind: %d bytes, %d, %v", size, len(behind), len(got), n, code)
			}
		}
	}
}

// P1.3
func TestOpenOfWrongBytes(t *testing.T) {
	abc := seal(t, []byte("abc"))
	longest := seal(t, pattern(api.MaxFrame))
	tooLong := make([]byte, 8+api.MaxFrame+1)
	binary.BigEndian.PutUint32(tooLong, api.MaxFrame+1)
	binary.BigEndian.PutUint32(tooLong[4:], Sum(tooLong[:4], tooLong[8:]))
	payloadOnly := append([]byte(nil), abc...)
	binary.BigEndian.PutUint32(payloadOnly[4:], Sum(abc[8:]))
	for _, c := range []struct {
		name string
		b    []byte
		want api.Errno
	}{
		{"nothing", nil, api.ErrShort},
		{"seven bytes of nought", make([]byte, 7), api.ErrShort},
		{"seven bytes of a length too great", bytes.Repeat([]byte{0xff}, 7), api.ErrShort},
		{"a length too great alone", bytes.Repeat([]byte{0xff}, 8), api.ErrLong},
		{"the highest bit of the length", []byte{0x80, 0, 0, 0, 0, 0, 0, 0}, api.ErrLong},
		{"one byte too many, all there", tooLong, api.ErrLong},
		{"one byte too many, none there", tooLong[:8], api.ErrLong},
		{"the greatest length, nothing there", []byte{0, 0, 0x40, 0, 0, 0, 0, 0}, api.ErrShort},
		{"the longest, one byte missing", longest[:len(longest)-1], api.ErrShort},
		{"too short and a wrong sum", append([]byte{0, 0, 0, 4, 9, 9, 9, 9}, "abc"...), api.ErrShort},
		{"an empty payload, the sum nought", make([]byte, 8), api.ErrSum},
		{"a sum of the payload alone", payloadOnly, api.ErrSum},
	} {
		if p, n, code := Open(c.b); len(p) != 0 || n != 0 || code != c.want {
			t.Errorf("%s: %d bytes, %d, %v, want %v", c.name, len(p), n, code, c.want)
		}
	}
}

// P1.3
func TestOpenOfTornAndSpoiltFrames(t *testing.T) {
	b := seal(t, []byte("some payload"))
	for n := range len(b) {
		if p, size, code := Open(b[:n]); len(p) != 0 || size != 0 || code != api.ErrShort {
			t.Errorf("the first %d bytes: %d bytes, %d, %v", n, len(p), size, code)
		}
	}
	for bit := range 8 * len(b) {
		spoilt := append([]byte(nil), b...)
		spoilt[bit/8] ^= 1 << (bit % 8)
		length := binary.BigEndian.Uint32(spoilt)
		want := api.ErrSum
		if length > api.MaxFrame {
			want = api.ErrLong
		} else if int(length) > len(b)-8 {
			want = api.ErrShort
		}
		if p, size, code := Open(spoilt); len(p) != 0 || size != 0 || code != want {
			t.Errorf("bit %d turned: %d bytes, %d, %v, want %v", bit, len(p), size, code, want)
		}
	}
}

// P1.4
func TestCut(t *testing.T) {
	payloads := [][]byte{[]byte("abc"), nil, pattern(api.MaxFrame), []byte("z"), {}}
	var b []byte
	ends := []int{0}
	for _, p := range payloads {
		b = append(b, seal(t, p)...)
		ends = append(ends, len(b))
	}
	for k, end := range ends {
		for _, c := range []struct {
			behind []byte
			want   api.Errno
		}{
			{nil, api.OK},
			{[]byte{7}, api.ErrShort},
			{seal(t, []byte("torn"))[:11], api.ErrShort},
			{bytes.Repeat([]byte{0xff}, 9), api.ErrLong},
			// What stands behind the first wrong place counts no more.
			{append(make([]byte, 8), seal(t, []byte("whole"))...), api.ErrSum},
		} {
			list, at, code := Cut(append(b[:end:end], c.behind...))
			if len(list) != k || at != end || code != c.want {
				t.Errorf("%d frames and %x: %d, %d, %v, want %d, %v", k, c.behind, len(list), at, code, end, c.want)
				continue
			}
			for i := range list {
				if !bytes.Equal(list[i], payloads[i]) {
					t.Errorf("%d frames: payload %d differs", k, i)
				}
			}
		}
	}
	if list, at, code := Cut(nil); len(list) != 0 || at != 0 || code != api.OK {
		t.Errorf("Cut(nil) = %d, %d, %v", len(list), at, code)
	}
}

// P1.4: Cut goes on by what Open answers.
func TestCutOfManyFrames(t *testing.T) {
	var b []byte
	for i := range 2000 {
		b = append(b, seal(t, pattern(i%50))...)
	}
	list, at, code := Cut(b)
	if len(list) != 2000 || at != len(b) || code != api.OK {
		t.Fatalf("%d, %d, %v", len(list), at, code)
	}
	for i, p := range list {
		if !bytes.Equal(p, pattern(i%50)) {
			t.Fatalf("payload %d differs", i)
		}
	}
}

// P1
func FuzzNothingPanics(f *testing.F) {
	whole, _ := Seal([]byte("abc"))
	for _, b := range [][]byte{nil, {}, {0}, make([]byte, 8), bytes.Repeat([]byte{0xff}, 20), whole, append(whole, 1)} {
		f.Add(b)
	}
	f.Fuzz(func(t *testing.T, b []byte) {
		Sum(b, b[len(b)/2:])
		if sealed, code := Seal(b); code == api.OK {
			if p, n, code := Open(sealed); code != api.OK || n != len(sealed) || !bytes.Equal(p, b) {
				t.Errorf("Open(Seal(%x)) = %x, %d, %v", b, p, n, code)
			}
		}
		list, at, code := Cut(b)
		var again []byte
		for _, p := range list {
			sealed, _ := Seal(p)
			again = append(again, sealed...)
		}
		if !bytes.Equal(again, b[:at]) || (code == api.OK) != (at == len(b)) {
			t.Errorf("Cut(%x) = %x, %d, %v", b, list, at, code)
		}
		if _, _, next := Open(b[at:]); at < len(b) && next != code {
			t.Errorf("Cut(%x) stops with %v, Open says %v", b, code, next)
		}
	})
}

// P2: what is handed in isn't changed, its spare room neither.
func TestArgumentsStay(t *testing.T) {
	room := append(append(seal(t, []byte("abc")), seal(t, nil)...), "spare room"...)
	want := append([]byte(nil), room...)
	for size := range len(room) {
		b := room[:size]
		Sum(b, b)
		Seal(b)
		Open(b)
		Cut(b)
	}
	if !bytes.Equal(room, want) {
		t.Errorf("an argument was changed: %x, want %x", room, want)
	}
}

// P2: what is answered shares nothing with arguments or other answers.
func TestAnswersAreNewMemory(t *testing.T) {
	payload := pattern(20)
	kept := append([]byte(nil), payload...)
	b := seal(t, payload)
	other := seal(t, payload)
	want := append([]byte(nil), b...)
	scribble(other)
	scribble(payload)
	if !bytes.Equal(b, want) {
		t.Fatal("Seal's answer shares memory")
	}
	first, _, _ := Open(b)
	second, _, _ := Open(b)
	scribble(second)
	if !bytes.Equal(first, kept) || !bytes.Equal(b, want) {
		t.Error("Open's answer shares memory")
	}
	three := append(append(append([]byte(nil), b...), seal(t, nil)...), b...)
	whole := append([]byte(nil), three...)
	list, _, _ := Cut(three)
	scribble(list[0])
	scribble(list[1])
	if !bytes.Equal(list[2], kept) || !bytes.Equal(three, whole) {
		t.Error("Cut's answers share memory")
	}
	scribble(three)
	if !bytes.Equal(list[2], kept) {
		t.Error("Cut's answers share memory with its argument")
	}
}
