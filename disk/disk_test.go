package disk

import (
	"bytes"
	"math"
	"math/rand"
	"testing"

	"porter/api"
)

// model is a disk as P3.1 to P3.4 tell it, told once more in a plainer way: the durable bytes, and the others.
type model struct {
	firm, loose []byte
	room        int
}

func (m *model) all() []byte {
	return append(append([]byte{}, m.firm...), m.loose...)
}

func (m *model) add(parts [][]byte) api.Errno {
	more := bytes.Join(parts, nil)
	if len(m.all())+len(more) > m.room {
		return api.ErrFull
	}
	m.loose = append(m.loose, more...)
	return api.OK
}

func (m *model) keep(b []byte) {
	m.firm, m.loose = b, nil
}

func (m *model) crash(keep int) {
	for len(m.loose) > 0 && keep > 0 {
		m.firm = append(m.firm, m.loose[0])
		m.loose = m.loose[1:]
		keep--
	}
	m.loose = nil
}

func (m *model) truncate(size int) api.Errno {
	if size < 0 || size > len(m.all()) {
		return api.ErrRange
	}
	m.keep(m.all()[:size])
	return api.OK
}

// judge: is the disk as the model says?
func (m *model) judge(t *testing.T, d *Disk, what string) {
	t.Helper()
	all := m.all()
	if d.Size() != len(all) || d.Durable() != len(m.firm) || d.Left() != m.room-len(all) || !bytes.Equal(d.Bytes(), all) {
		t.Fatalf("%s: %d bytes, %d durable, %d left, %q; want %d, %d, %d, %q", what, d.Size(), d.Durable(), d.Left(), d.Bytes(), len(all), len(m.firm), m.room-len(all), all)
	}
}

// made: a disk with room for so many bytes, of which some are durable and some aren't.
func made(t *testing.T, room int, firm, loose string) *Disk {
	t.Helper()
	d, code := New(room)
	if code != api.OK {
		t.Fatalf("New(%d): %v", room, code)
	}
	if code := d.Append([]byte(firm)); code != api.OK {
		t.Fatalf("Append of %q: %v", firm, code)
	}
	d.Sync()
	if code := d.Append([]byte(loose)); code != api.OK {
		t.Fatalf("Append of %q: %v", loose, code)
	}
	return d
}

// judge: is the disk what these texts say?
func judge(t *testing.T, what string, d *Disk, room int, firm, loose string) {
	t.Helper()
	m := &model{firm: []byte(firm), loose: []byte(loose), room: room}
	m.judge(t, d, what)
}

// P3.1
func TestNew(t *testing.T) {
	for _, room := range []int{0, 1, 9, 1048575, 1048576} {
		d, code := New(room)
		if code != api.OK || d == nil {
			t.Fatalf("New(%d): %v, %v", room, d, code)
		}
		judge(t, "new", d, room, "", "")
	}
	for _, room := range []int{-1, -9, math.MinInt, 1048577, 1 << 30, math.MaxInt} {
		if d, code := New(room); d != nil || code != api.ErrRange {
			t.Errorf("New(%d): %v, %v", room, d, code)
		}
	}
}

// P3.1
func TestDisksAreApart(t *testing.T) {
	a, b := made(t, 9, "ab", "c"), made(t, 9, "x", "yz")
	judge(t, "one", a, 9, "ab", "c")
	judge(t, "another", b, 9, "x", "yz")
}

// P3.2
func TestAppend(t *testing.T) {
	d := made(t, 20, "", "")
	for _, c := range []struct {
		parts [][]byte
		want  string
	}{
		{nil, ""},
		{[][]byte{}, ""},
		{[][]byte{nil, {}}, ""},
		{[][]byte{[]byte("ab")}, "ab"},
		{[][]byte{[]byte("c"), nil, []byte("de"), []byte("f")}, "abcdef"},
		{[][]byte{{0, 255}, {0}}, "abcdef\x00\xff\x00"},
		{[][]byte{[]byte("elevenbytes")}, "abcdef\x00\xff\x00elevenbytes"},
		{[][]byte{nil}, "abcdef\x00\xff\x00elevenbytes"},
	} {
		if code := d.Append(c.parts...); code != api.OK {
			t.Errorf("Append of %q: %v", c.parts, code)
		}
		judge(t, "appended", d, 20, "", c.want)
	}
}

// P3.2
func TestAppendBehindDurableBytes(t *testing.T) {
	d := made(t, 9, "ab", "")
	d.Append([]byte("c"))
	judge(t, "appended", d, 9, "ab", "c")
	d.Append([]byte("d"), []byte("e"))
	judge(t, "appended again", d, 9, "ab", "cde")
}

// P3.2: all parts or none.
func TestAppendWithoutRoom(t *testing.T) {
	for _, c := range []struct {
		room  int
		parts []string
		want  api.Errno
	}{
		{3, []string{""}, api.OK},
		{3, []string{"d"}, api.ErrFull},
		{4, []string{"d"}, api.OK},
		{4, []string{"de"}, api.ErrFull},
		{4, []string{"d", "e"}, api.ErrFull},
		{4, []string{"d", ""}, api.OK},
		{4, []string{"", "", "de", ""}, api.ErrFull},
		{5, []string{"d", "e"}, api.OK},
		{8, []string{"de", "fg", "hi"}, api.ErrFull},
		{9, []string{"de", "fg", "hi"}, api.OK},
		{9, []string{"much too long for it", ""}, api.ErrFull},
	} {
		d := made(t, c.room, "ab", "c")
		var parts [][]byte
		all := ""
		for _, p := range c.parts {
			parts = append(parts, []byte(p))
			all += p
		}
		if code := d.Append(parts...); code != c.want {
			t.Errorf("room %d, Append of %q: %v, want %v", c.room, c.parts, code, c.want)
		}
		if c.want != api.OK {
			all = ""
		}
		judge(t, "appended", d, c.room, "ab", "c"+all)
	}
	d := made(t, 0, "", "")
	if d.Append() != api.OK || d.Append(nil, nil) != api.OK || d.Append(nil, []byte{0}) != api.ErrFull {
		t.Error("Append without any room")
	}
}

// P3.2: up to the greatest disk there is.
func TestAppendUpToMaxDisk(t *testing.T) {
	d := made(t, api.MaxDisk, "", "")
	half := bytes.Repeat([]byte("x"), api.MaxDisk/2)
	if d.Append(half, half, []byte{1}) != api.ErrFull || d.Size() != 0 {
		t.Error("one byte too many")
	}
	if d.Append(half, half) != api.OK || d.Left() != 0 || d.Size() != api.MaxDisk {
		t.Error("as many as there is room for")
	}
	if d.Append([]byte{1}) != api.ErrFull || d.Append(nil) != api.OK {
		t.Error("behind the last byte")
	}
}

// P3.2: one great part so often that the sum of the sizes isn't held by 32 bits.
func TestAppendOfManyParts(t *testing.T) {
	d := made(t, 9, "ab", "c")
	part := make([]byte, api.MaxDisk)
	parts := make([][]byte, 1<<20)
	for i := range parts {
		parts[i] = part
	}
	if code := d.Append(parts...); code != api.ErrFull {
		t.Errorf("Append of 2^20 parts: %v", code)
	}
	judge(t, "refused", d, 9, "ab", "c")
}

// P3.2
func TestSync(t *testing.T) {
	d := made(t, 9, "", "")
	d.Sync()
	judge(t, "nothing synced", d, 9, "", "")
	d = made(t, 9, "ab", "cd")
	d.Sync()
	judge(t, "synced", d, 9, "abcd", "")
	d.Sync()
	judge(t, "synced again", d, 9, "abcd", "")
	d.Crash(0)
	judge(t, "crashed", d, 9, "abcd", "")
}

// P3.3
func TestCrash(t *testing.T) {
	for _, c := range []struct {
		firm, loose string
		keep        int
		want        string
	}{
		{"", "", 0, ""},
		{"", "", 5, ""},
		{"", "abc", 2, "ab"},
		{"ab", "cde", math.MinInt, "ab"},
		{"ab", "cde", -3, "ab"},
		{"ab", "cde", -1, "ab"},
		{"ab", "cde", 0, "ab"},
		{"ab", "cde", 1, "abc"},
		{"ab", "cde", 2, "abcd"},
		{"ab", "cde", 3, "abcde"},
		{"ab", "cde", 4, "abcde"},
		{"ab", "cde", 100, "abcde"},
		{"ab", "cde", math.MaxInt, "abcde"},
		{"ab", "", 1, "ab"},
		{"ab", "", -1, "ab"},
		{"ab", "", math.MaxInt, "ab"},
	} {
		d := made(t, 9, c.firm, c.loose)
		d.Crash(c.keep)
		judge(t, "crashed", d, 9, c.want, "")
		d.Crash(0)
		judge(t, "crashed again", d, 9, c.want, "")
		if code := d.Append([]byte("z")); code != api.OK {
			t.Errorf("Append behind a crash: %v", code)
		}
		judge(t, "appended behind a crash", d, 9, c.want, "z")
	}
}

// P3.4
func TestTruncate(t *testing.T) {
	for size := range 6 {
		d := made(t, 9, "ab", "cde")
		if code := d.Truncate(size); code != api.OK {
			t.Errorf("Truncate(%d): %v", size, code)
		}
		want := "abcde"[:size]
		judge(t, "truncated", d, 9, want, "")
		d.Crash(0)
		judge(t, "crashed", d, 9, want, "")
		d.Append([]byte("z"))
		judge(t, "appended", d, 9, want, "z")
	}
	for _, size := range []int{-1, -2, math.MinInt, 6, 7, 9, 10, math.MaxInt} {
		d := made(t, 9, "ab", "cde")
		if code := d.Truncate(size); code != api.ErrRange {
			t.Errorf("Truncate(%d): %v", size, code)
		}
		judge(t, "refused", d, 9, "ab", "cde")
	}
	empty := made(t, 9, "", "")
	if empty.Truncate(0) != api.OK || empty.Truncate(1) != api.ErrRange || empty.Truncate(-1) != api.ErrRange {
		t.Error("Truncate of an empty disk")
	}
}

// P3.1
func TestFork(t *testing.T) {
	d := made(t, 9, "ab", "cd")
	f := d.Fork()
	judge(t, "the other", f, 9, "ab", "cd")
	// Both go on at the same place: neither may see what the other one writes there.
	d.Append([]byte("x"))
	f.Append([]byte("yz"))
	judge(t, "the one", d, 9, "ab", "cdx")
	judge(t, "the other", f, 9, "ab", "cdyz")
	d.Crash(0)
	judge(t, "the other", f, 9, "ab", "cdyz")
	d.Append([]byte("1234"))
	judge(t, "the other", f, 9, "ab", "cdyz")
	f.Sync()
	f.Append([]byte("end"))
	judge(t, "the other", f, 9, "abcdyz", "end")
	judge(t, "the one", d, 9, "ab", "1234")
	f.Truncate(0)
	f.Append([]byte("_________"))
	judge(t, "the one", d, 9, "ab", "1234")
	empty := made(t, 0, "", "").Fork()
	judge(t, "another without room", empty, 0, "", "")
}

// P3.1 to P3.4, and P1: any calls, one behind the other, on disks and their forks.
func TestManyCalls(t *testing.T) {
	random := rand.New(rand.NewSource(3))
	sizes := []int{math.MinInt, -1, 0, 1, 2, 3, 5, 8, 13, 21, 40, math.MaxInt}
	for range 300 {
		room := random.Intn(40)
		disks := []*Disk{made(t, room, "", "")}
		models := []*model{{room: room}}
		for range 60 {
			i := random.Intn(len(disks))
			d, m := disks[i], models[i]
			n := sizes[random.Intn(len(sizes))]
			switch random.Intn(6) {
			case 0, 1:
				parts := make([][]byte, random.Intn(4))
				for k := range parts {
					parts[k] = make([]byte, random.Intn(6))
					random.Read(parts[k])
				}
				want := m.add(parts)
				if code := d.Append(parts...); code != want {
					t.Fatalf("Append of %q: %v, want %v", parts, code, want)
				}
			case 2:
				d.Sync()
				m.keep(m.all())
			case 3:
				d.Crash(n)
				m.crash(n)
			case 4:
				want := m.truncate(n)
				if code := d.Truncate(n); code != want {
					t.Fatalf("Truncate(%d): %v, want %v", n, code, want)
				}
			case 5:
				disks = append(disks, d.Fork())
				models = append(models, &model{append([]byte{}, m.firm...), append([]byte{}, m.loose...), m.room})
			}
			for k := range disks {
				models[k].judge(t, disks[k], "one of many")
			}
		}
	}
}

// P2: what is handed in is neither changed nor kept.
func TestArgumentsStay(t *testing.T) {
	room := []byte("some bytes and spare room")
	want := append([]byte(nil), room...)
	d := made(t, 40, "", "")
	parts := [][]byte{room[:4], room[4:10], room[:0]}
	d.Append(parts...)
	d.Append([]byte("more"))
	d.Crash(3)
	d.Append(room[:25])
	if !bytes.Equal(room, want) {
		t.Errorf("a part was changed: %q", room)
	}
	if len(parts) != 3 || string(parts[0]) != "some" || string(parts[1]) != " bytes" || len(parts[2]) != 0 {
		t.Errorf("the parts were changed: %q", parts)
	}
	clear(room)
	clear(parts)
	judge(t, "the parts scribbled on", d, 40, "som", "some bytes and spare room")
}

// P2: what is answered is new memory, its spare room too.
func TestAnswersAreNewMemory(t *testing.T) {
	d := made(t, 40, "ab", "cde")
	first, second := d.Bytes(), d.Bytes()
	clear(first[:cap(first)])
	judge(t, "an answer scribbled on", d, 40, "ab", "cde")
	if string(second) != "abcde" {
		t.Errorf("two answers share memory: %q", second)
	}
	d.Append([]byte("fg"))
	d.Truncate(1)
	d.Append([]byte("zzzzzz"))
	if string(second) != "abcde" {
		t.Errorf("an answer is kept: %q", second)
	}
	clear(second[:cap(second)])
	judge(t, "an answer scribbled on", d, 40, "a", "zzzzzz")
}
