package code

import (
	"bytes"
	"math"
	"math/big"
	"math/rand"
	"reflect"
	"strings"
	"testing"

	"porter/api"
)

// numbers: where the count of bytes changes, and the ends.
func numbers() []int64 {
	list := []int64{0, 1, -1, 2, -2, 5, math.MaxInt64, math.MinInt64, math.MaxInt64 - 1, math.MinInt64 + 1}
	for shift := range 63 {
		for d := int64(-2); d <= 2; d++ {
			list = append(list, int64(1)<<shift+d, -(int64(1)<<shift)+d)
		}
	}
	return list
}

// bytesOf: a number's bytes as P2.1 tells them, by great numbers.
func bytesOf(n int64) []byte {
	x := new(big.Int).Mul(big.NewInt(2), big.NewInt(n))
	if n < 0 {
		x.Neg(x).Sub(x, big.NewInt(1))
	}
	var list []byte
	for {
		low := new(big.Int)
		x.DivMod(x, big.NewInt(128), low)
		if x.Sign() == 0 {
			return append(list, byte(low.Int64()))
		}
		list = append(list, byte(low.Int64())+128)
	}
}

// tupleOf: a tuple of texts of these sizes.
func tupleOf(object, relation, user int) api.Tuple {
	return api.Tuple{Object: strings.Repeat("o", object), Relation: strings.Repeat("r", relation), User: strings.Repeat("u", user)}
}

// full: a message in which all fields have values that are told apart.
func full() api.Msg {
	return api.Msg{
		Kind: 3, From: -1, To: 64, Id: math.MaxInt64, Rev: math.MinInt64, Epoch: 300, Slot: 15, Flag: true,
		Nodes: []int{7, -64, 0},
		Muts:  []api.Mutation{{Delete: true, Tuple: api.Tuple{Object: "a:b", Relation: "r", User: "u:v"}}, {Tuple: api.Tuple{Object: "c:d"}}},
		Pre:   []api.Condition{{Tuple: api.Tuple{Relation: "x\x00\xff"}}, {Absent: true}},
		Rows:  []api.Row{{Tuple: api.Tuple{User: "w:x#y"}, Since: 1, Until: 0}, {Since: -2, Until: 128}},
	}
}

// fullBytes: its bytes, by hand.
func fullBytes() []byte {
	return bytes.Join([][]byte{
		{6, 1, 128, 1},
		{0xfe, 0xff, 0xff, 0xff, 0xff, 0xff, 0xff, 0xff, 0xff, 1},
		{0xff, 0xff, 0xff, 0xff, 0xff, 0xff, 0xff, 0xff, 0xff, 1},
		{0xd8, 4, 30, 1},
		{6, 14, 127, 0},
		{4}, {1, 6}, []byte("a:b"), {2}, []byte("r"), {6}, []byte("u:v"), {0, 6}, []byte("c:d"), {0, 0},
		{4}, {0, 0, 6}, []byte("x\x00\xff"), {0}, {1, 0, 0, 0},
		{4}, {0, 0, 10}, []byte("w:x#y"), {2, 0}, {0, 0, 0, 3, 128, 2},
	}, nil)
}

// same: the same messages, empty lists and none being alike.
func same(a, b api.Msg) bool {
	for _, m := range []*api.Msg{&a, &b} {
		m.Nodes = append([]int{}, m.Nodes...)
		m.Muts = append([]api.Mutation{}, m.Muts...)
		m.Pre = append([]api.Condition{}, m.Pre...)
		m.Rows = append([]api.Row{}, m.Rows...)
	}
	return reflect.DeepEqual(a, b)
}

// scribble writes into all that a slice shares, its spare room too.
func scribble[T any](list []T) {
	clear(list[:cap(list)])
}

// P2.1
func TestPutInt(t *testing.T) {
	for _, c := range []struct {
		n    int64
		want []byte
	}{
		{0, []byte{0}},
		{-1, []byte{1}},
		{1, []byte{2}},
		{-2, []byte{3}},
		{63, []byte{126}},
		{-64, []byte{127}},
		{64, []byte{128, 1}},
		{-65, []byte{129, 1}},
		{8191, []byte{0xfe, 127}},
		{8192, []byte{128, 128, 1}},
		{math.MaxInt64, []byte{0xfe, 0xff, 0xff, 0xff, 0xff, 0xff, 0xff, 0xff, 0xff, 1}},
		{math.MinInt64, []byte{0xff, 0xff, 0xff, 0xff, 0xff, 0xff, 0xff, 0xff, 0xff, 1}},
	} {
		if got := PutInt(nil, c.n); !bytes.Equal(got, c.want) {
			t.Errorf("PutInt(nil, %d) = %v, want %v", c.n, got, c.want)
		}
	}
	for _, n := range numbers() {
		want := bytesOf(n)
		if got := PutInt([]byte("list"), n); string(got) != "list"+string(want) {
			t.Errorf("PutInt of %d = %v, want %v", n, got, want)
		}
	}
}

// P2.1
func TestGetInt(t *testing.T) {
	for _, n := range numbers() {
		b := bytesOf(n)
		for _, behind := range []string{"", "\x00", "\x80", "\xff\xff"} {
			got, size, code := GetInt(append(b[:len(b):len(b)], behind...))
			if got != n || size != len(b) || code != api.OK {
				t.Errorf("GetInt of %d, %q behind: %d, %d, %v", n, behind, got, size, code)
			}
		}
		for cut := range len(b) {
			if got, size, code := GetInt(b[:cut]); got != 0 || size != 0 || code != api.ErrShort {
				t.Errorf("GetInt of %d, cut at %d: %d, %d, %v", n, cut, got, size, code)
			}
		}
	}
}

// P2.1
func TestGetIntOfWrongBytes(t *testing.T) {
	nine := strings.Repeat("\x80", 9)
	for _, c := range []struct {
		b    string
		want api.Errno
	}{
		{"", api.ErrShort},
		{"\x80", api.ErrShort},
		{"\xff\xff", api.ErrShort},
		{nine, api.ErrShort},
		{"\x80\x00", api.ErrByte},
		{"\xff\x80\x00", api.ErrByte},
		{"\x81\x00\x05", api.ErrByte},
		{nine + "\x00", api.ErrByte},
		{nine + "\x02", api.ErrByte},
		{nine + "\x7f", api.ErrByte},
		{nine + "\x80", api.ErrByte},
		{nine + "\x81", api.ErrByte},
		{nine + "\x80\x01", api.ErrByte},
		{nine + "\xff\xff\xff", api.ErrByte},
	} {
		if n, size, code := GetInt([]byte(c.b)); n != 0 || size != 0 || code != c.want {
			t.Errorf("GetInt(%q) = %d, %d, %v, want %v", c.b, n, size, code, c.want)
		}
	}
	if n, size, code := GetInt([]byte(nine + "\x01")); n != 1<<62 || size != 10 || code != api.OK {
		t.Errorf("GetInt of the greatest bit alone: %d, %d, %v", n, size, code)
	}
}

// P2.2
func TestEncode(t *testing.T) {
	if b, code := Encode(api.Msg{}); code != api.OK || !bytes.Equal(b, make([]byte, 12)) {
		t.Errorf("the zero message: %v, %v", b, code)
	}
	if b, code := Encode(full()); code != api.OK || !bytes.Equal(b, fullBytes()) {
		t.Errorf("the full message: %v, %v, want %v", b, code, fullBytes())
	}
	empty := api.Msg{Nodes: []int{}, Muts: []api.Mutation{}, Pre: []api.Condition{}, Rows: []api.Row{}}
	if b, code := Encode(empty); code != api.OK || !bytes.Equal(b, make([]byte, 12)) {
		t.Errorf("empty lists: %v, %v", b, code)
	}
}

// texts: messages with one text of that size, each at another place.
func texts(size int) []api.Msg {
	var list []api.Msg
	for _, x := range []api.Tuple{tupleOf(size, 0, 0), tupleOf(0, size, 0), tupleOf(0, 0, size)} {
		list = append(list,
			api.Msg{Muts: []api.Mutation{{}, {Tuple: x}}},
			api.Msg{Pre: []api.Condition{{Tuple: x}, {}}},
			api.Msg{Rows: []api.Row{{Tuple: x}}})
	}
	return list
}

// lists: messages with one list of that size, each at another place.
func lists(size int) []api.Msg {
	return []api.Msg{
		{Nodes: make([]int, size)},
		{Muts: make([]api.Mutation, size)},
		{Pre: make([]api.Condition, size)},
		{Rows: make([]api.Row, size)},
	}
}

// sized: a message of just so many bytes, at least 1024.
func sized(size int) api.Msg {
	row := api.Row{Tuple: tupleOf(100, 0, 0)}
	m := api.Msg{Kind: 1}
	for {
		b, code := Encode(m)
		if code != api.OK {
			return m
		}
		left := size - len(b)
		if left <= 120 && left >= 6 {
			m.Rows = append(m.Rows, api.Row{Tuple: tupleOf(0, 0, 0)})
			for n := range 121 {
				m.Rows[len(m.Rows)-1].Tuple.User = strings.Repeat("u", n)
				if b, _ := Encode(m); len(b) == size {
					return m
				}
			}
			return m
		}
		m.Rows = append(m.Rows, row)
	}
}

// P2.2 and P2.3: the limits, and one above them.
func TestLimits(t *testing.T) {
	good := append(texts(MaxText), lists(api.MaxList)...)
	for i, m := range good {
		b, code := Encode(m)
		if code != api.OK {
			t.Errorf("message %d at the limit: %v", i, code)
		}
		if got, code := Decode(b); code != api.OK || !same(got, m) {
			t.Errorf("message %d at the limit isn't read: %v", i, code)
		}
	}
	bad := append(texts(MaxText+1), lists(api.MaxList+1)...)
	bad = append(bad, texts(1<<16)...)
	bad = append(bad, lists(1<<20)...)
	for i, m := range bad {
		if b, code := Encode(m); code != api.ErrLong || len(b) != 0 {
			t.Errorf("message %d above the limit: %d bytes, %v", i, len(b), code)
		}
	}
}

// P2.2 and P2.3: a message as long as a frame's payload, and one byte longer.
func TestLongestMessage(t *testing.T) {
	m := sized(api.MaxFrame)
	b, code := Encode(m)
	if code != api.OK || len(b) != api.MaxFrame {
		t.Fatalf("the longest message: %d bytes, %v", len(b), code)
	}
	if got, code := Decode(b); code != api.OK || !same(got, m) {
		t.Errorf("the longest message isn't read: %v", code)
	}
	if got, code := Decode(append(b, 0)); code != api.ErrLong || !same(got, api.Msg{}) {
		t.Errorf("a message one byte too long: %v", code)
	}
	if got, code := Decode(make([]byte, 1<<20)); code != api.ErrLong || !same(got, api.Msg{}) {
		t.Errorf("far too many bytes: %v", code)
	}
	if got, code := Decode(make([]byte, api.MaxFrame)); code != api.ErrTrail || !same(got, api.Msg{}) {
		t.Errorf("as many noughts as may be: %v", code)
	}
	m.Kind = 64
	if b, code := Encode(m); code != api.ErrLong || len(b) != 0 {
		t.Errorf("a message one byte longer: %d bytes, %v", len(b), code)
	}
	m = api.Msg{Muts: make([]api.Mutation, api.MaxList)}
	for i := range m.Muts {
		m.Muts[i].Tuple = tupleOf(MaxText, MaxText, MaxText)
	}
	if b, code := Encode(m); code != api.ErrLong || len(b) != 0 {
		t.Errorf("all that may be, together: %d bytes, %v", len(b), code)
	}
}

// P2.3
func TestDecode(t *testing.T) {
	if m, code := Decode(make([]byte, 12)); code != api.OK || !same(m, api.Msg{}) {
		t.Errorf("twelve noughts: %v, %v", m, code)
	}
	if m, code := Decode(fullBytes()); code != api.OK || !same(m, full()) {
		t.Errorf("the full message: %v, %v", m, code)
	}
}

// P2.3: the first thing that can't be read tells the error.
func TestDecodeOfWrongBytes(t *testing.T) {
	head := strings.Repeat("\x00", 7)
	long := strings.Repeat("\x80", 9) + "\x02"
	for _, c := range []struct {
		name, b string
		want    api.Errno
	}{
		{"nothing", "", api.ErrShort},
		{"a number torn", "\x80", api.ErrShort},
		{"a number with a nought too many", "\x80\x00" + strings.Repeat("\x00", 11), api.ErrByte},
		{"a number too great", long + strings.Repeat("\x00", 11), api.ErrByte},
		{"no byte of truth", head, api.ErrShort},
		{"2 for true", head + "\x02\x00\x00\x00\x00", api.ErrKind},
		{"255 for true", head + "\xff", api.ErrKind},
		{"a wrong truth, then nothing", head + "\x80", api.ErrKind},
		{"no lists", head + "\x01", api.ErrShort},
		{"a list of -1", head + "\x00\x01\x00\x00\x00", api.ErrLong},
		{"a list of 1025", head + "\x00\x82\x10", api.ErrLong},
		{"a list of the least number", head + "\x00" + string(bytesOf(math.MinInt64)), api.ErrLong},
		{"a list of the greatest number", head + "\x00" + string(bytesOf(math.MaxInt64)), api.ErrLong},
		{"a list of 2^32", head + "\x00" + string(bytesOf(1<<32)), api.ErrLong},
		{"a list of no number", head + "\x00\x80\x00", api.ErrByte},
		{"a list of 1024, none there", head + "\x00\x80\x10", api.ErrShort},
		{"a node torn", head + "\x00\x04\x02\x80", api.ErrShort},
		{"a mutation that is 2", head + "\x00\x00\x02\x02", api.ErrKind},
		{"a mutation missing", head + "\x00\x00\x02", api.ErrShort},
		{"a text of 129", head + "\x00\x00\x02\x00\x82\x02", api.ErrLong},
		{"a text of -1", head + "\x00\x00\x02\x00\x01", api.ErrLong},
		{"a text of 128, 127 there", head + "\x00\x00\x02\x00\x80\x02" + strings.Repeat("x", 127), api.ErrShort},
		{"a text of no number", head + "\x00\x00\x02\x00" + long, api.ErrByte},
		{"a condition that is 3", head + "\x00\x00\x00\x02\x03", api.ErrKind},
		{"a row with texts alone", head + "\x00\x00\x00\x00\x02\x00\x00\x00", api.ErrShort},
		{"a row without an end", head + "\x00\x00\x00\x00\x02\x00\x00\x00\x00", api.ErrShort},
		{"one byte behind", head + "\x00\x00\x00\x00\x00\x00", api.ErrTrail},
		{"a message twice", string(fullBytes()) + string(fullBytes()), api.ErrTrail},
		{"a wrong truth ahead of a list too long", head + "\x02\x82\x10", api.ErrKind},
	} {
		if m, code := Decode([]byte(c.b)); code != c.want || !same(m, api.Msg{}) {
			t.Errorf("%s: %v, want %v", c.name, code, c.want)
		}
	}
	b := fullBytes()
	for cut := range len(b) {
		if m, code := Decode(b[:cut]); code != api.ErrShort || !same(m, api.Msg{}) {
			t.Errorf("cut at %d: %v", cut, code)
		}
	}
}

// The shapes of P2.2: n a number, t what is true or false, s a text, [ ] the items of a list.
const shape = "nnnnnnnt[n][tsss][tsss][sssnn]"

// walker goes over a message's bytes by their shape, and tells what is wrong with them first.
type walker struct {
	b []byte
}

// number: the next number by great numbers, and what is wrong with it.
func (w *walker) number() (*big.Int, api.Errno) {
	u := new(big.Int)
	for i, x := range w.b {
		if i == 9 && x > 1 || i > 0 && x == 0 {
			return nil, api.ErrByte
		}
		u.Add(u, new(big.Int).Lsh(big.NewInt(int64(x%128)), uint(7*i)))
		if x < 128 {
			w.b = w.b[i+1:]
			half, odd := new(big.Int).DivMod(u, big.NewInt(2), new(big.Int))
			if odd.Sign() != 0 {
				half.Neg(half).Sub(half, big.NewInt(1))
			}
			return half, api.OK
		}
	}
	return nil, api.ErrShort
}

// count: the next number, if it is from 0 to most.
func (w *walker) count(most int64) (int, api.Errno) {
	n, code := w.number()
	if code != api.OK {
		return 0, code
	}
	if n.Sign() < 0 || n.Cmp(big.NewInt(most)) > 0 {
		return 0, api.ErrLong
	}
	return int(n.Int64()), api.OK
}

// walk: what is wrong first with the things of a shape.
func (w *walker) walk(shape string) api.Errno {
	for i := 0; i < len(shape); i++ {
		switch shape[i] {
		case 'n':
			if _, code := w.number(); code != api.OK {
				return code
			}
		case 't':
			if len(w.b) == 0 {
				return api.ErrShort
			}
			if w.b[0] > 1 {
				return api.ErrKind
			}
			w.b = w.b[1:]
		case 's':
			n, code := w.count(128)
			if code != api.OK {
				return code
			}
			if len(w.b) < n {
				return api.ErrShort
			}
			w.b = w.b[n:]
		case '[':
			end := i + strings.IndexByte(shape[i:], ']')
			n, code := w.count(1024)
			if code != api.OK {
				return code
			}
			for range n {
				if code := w.walk(shape[i+1 : end]); code != api.OK {
					return code
				}
			}
			i = end
		}
	}
	return api.OK
}

// wanted: the error of Decode of some bytes.
func wanted(b []byte) api.Errno {
	if len(b) > 16384 {
		return api.ErrLong
	}
	w := &walker{b: b}
	if code := w.walk(shape); code != api.OK {
		return code
	}
	if len(w.b) > 0 {
		return api.ErrTrail
	}
	return api.OK
}

// judge: is what Decode says of some bytes what P2.3 says? A message that is read has just these bytes.
func judge(t *testing.T, b []byte) {
	t.Helper()
	m, code := Decode(b)
	if want := wanted(b); code != want {
		t.Fatalf("Decode(%x): %v, want %v", b, code, want)
	}
	if code != api.OK {
		if !same(m, api.Msg{}) {
			t.Fatalf("Decode(%x): a message beside %v", b, code)
		}
		return
	}
	if again, code := Encode(m); code != api.OK || !bytes.Equal(again, b) {
		t.Fatalf("Decode(%x): a message whose Encode is %x, %v", b, again, code)
	}
}

// P2.3: each byte of a message changed for each other one.
func TestDecodeOfChangedBytes(t *testing.T) {
	b := fullBytes()
	judge(t, b)
	for i := range b {
		for x := range 256 {
			changed := append([]byte(nil), b...)
			changed[i] = byte(x)
			judge(t, changed)
		}
	}
}

// P2.2 and P2.3: messages of any values are read as they were written.
func TestRoundTrips(t *testing.T) {
	random := rand.New(rand.NewSource(2))
	list := numbers()
	number := func() int64 { return list[random.Intn(len(list))] }
	text := func() string {
		b := make([]byte, random.Intn(5)*random.Intn(33))
		random.Read(b)
		return string(b)
	}
	tuple := func() api.Tuple { return api.Tuple{Object: text(), Relation: text(), User: text()} }
	for range 500 {
		m := api.Msg{Kind: int(number()), From: int(number()), To: int(number()), Id: number(), Rev: number(), Epoch: number(), Slot: int(number()), Flag: random.Intn(2) == 1}
		for range random.Intn(4) {
			m.Nodes = append(m.Nodes, int(number()))
		}
		for range random.Intn(4) {
			m.Muts = append(m.Muts, api.Mutation{Delete: random.Intn(2) == 1, Tuple: tuple()})
		}
		for range random.Intn(4) {
			m.Pre = append(m.Pre, api.Condition{Absent: random.Intn(2) == 1, Tuple: tuple()})
		}
		for range random.Intn(4) {
			m.Rows = append(m.Rows, api.Row{Tuple: tuple(), Since: number(), Until: number()})
		}
		b, code := Encode(m)
		if code != api.OK {
			t.Fatalf("Encode(%v): %v", m, code)
		}
		if got, code := Decode(b); code != api.OK || !same(got, m) {
			t.Fatalf("Decode(%x) = %v, %v, want %v", b, got, code, m)
		}
		judge(t, b)
		judge(t, b[:random.Intn(len(b))])
		b[random.Intn(len(b))] ^= 1 << random.Intn(8)
		judge(t, b)
	}
}

// P1
func FuzzNothingPanics(f *testing.F) {
	for _, b := range [][]byte{nil, {0}, {128}, make([]byte, 12), make([]byte, 13), fullBytes(), bytes.Repeat([]byte{0xff}, 40)} {
		f.Add(b, int64(len(b)))
	}
	f.Fuzz(func(t *testing.T, b []byte, n int64) {
		judge(t, b)
		if got, size, code := GetInt(PutInt(nil, n)); got != n || code != api.OK || size != len(bytesOf(n)) {
			t.Errorf("GetInt(PutInt(nil, %d)) = %d, %d, %v", n, got, size, code)
		}
		w := &walker{b: b}
		want, code := w.number()
		got, size, have := GetInt(b)
		if have != code || code == api.OK && (got != want.Int64() || size != len(b)-len(w.b)) || code != api.OK && (got != 0 || size != 0) {
			t.Errorf("GetInt(%x) = %d, %d, %v, want %v, %v", b, got, size, have, want, code)
		}
	})
}

// P2: what is handed in isn't changed, its spare room neither.
func TestArgumentsStay(t *testing.T) {
	room := append(fullBytes(), "spare room for more"...)
	want := append([]byte(nil), room...)
	for size := range len(room) {
		PutInt(room[:size], math.MinInt64)
		GetInt(room[:size])
		Decode(room[:size])
	}
	if !bytes.Equal(room, want) {
		t.Errorf("bytes were changed: %x, want %x", room, want)
	}
	m := full()
	Encode(m)
	if !reflect.DeepEqual(m, full()) {
		t.Errorf("a message was changed: %v", m)
	}
}

// P2: what is answered shares nothing with arguments or other answers.
func TestAnswersAreNewMemory(t *testing.T) {
	list := append(make([]byte, 0, 64), "list"...)
	a, b := PutInt(list, 5), PutInt(list, -70)
	empty := PutInt(list[:0], 3)
	scribble(a)
	scribble(list)
	if string(b) != "list"+string(bytesOf(-70)) || string(empty) != "\x06" {
		t.Error("PutInt's answer shares memory")
	}
	first, _ := Encode(full())
	second, _ := Encode(full())
	scribble(second)
	if !bytes.Equal(first, fullBytes()) {
		t.Error("Encode's answer shares memory")
	}
	source := fullBytes()
	m, _ := Decode(source)
	other, _ := Decode(source)
	scribble(other.Nodes)
	scribble(other.Muts)
	scribble(other.Pre)
	scribble(other.Rows)
	if !bytes.Equal(source, fullBytes()) {
		t.Error("Decode's answer shares memory with its argument")
	}
	scribble(source)
	if !same(m, full()) {
		t.Error("Decode's answer shares memory")
	}
}
