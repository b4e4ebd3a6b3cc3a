package net

import (
	"bytes"
	"fmt"
	"math"
	"math/rand"
	"runtime"
	"slices"
	"testing"
	"weak"

	"porter/api"
)

// made: a network with some packets on their way.
func made(t *testing.T, nodes int, packets ...Packet) *Net {
	t.Helper()
	n, e := New(nodes)
	if e != api.OK || n == nil {
		t.Fatalf("New(%d): %v, %v", nodes, n, e)
	}
	for _, p := range packets {
		if e := n.Send(p); e != api.OK {
			t.Fatalf("Send(%v): %v", p, e)
		}
	}
	return n
}

// letter: a packet with some text.
func letter(from, to int, text string) Packet { return Packet{From: from, To: to, Bytes: []byte(text)} }

// tell: packets as texts.
func tell(packets []Packet) []string {
	list := []string{}
	for _, p := range packets {
		list = append(list, fmt.Sprintf("%d>%d %q", p.From, p.To, p.Bytes))
	}
	return list
}

// has: are just these packets on their way?
func has(t *testing.T, what string, n *Net, want ...Packet) {
	t.Helper()
	if list := tell(n.Packets()); !slices.Equal(list, tell(want)) || n.Len() != len(want) {
		t.Errorf("%s: Len %d, %v, want %v", what, n.Len(), list, tell(want))
	}
}

// full: a network with as many packets as there can be; packet i has the number i as its text.
func full(t *testing.T) *Net {
	t.Helper()
	n := made(t, 2)
	for i := range MaxFlight {
		if e := n.Send(letter(i%2, 1, fmt.Sprint(i))); e != api.OK || n.Len() != i+1 {
			t.Fatalf("Send of packet %d: %v, Len %d", i, e, n.Len())
		}
	}
	return n
}

var a, b, c, d = letter(0, 1, "a"), letter(1, 0, "b"), letter(0, 2, "c"), letter(2, 1, "d")

// P12.1
func TestNew(t *testing.T) {
	for _, nodes := range []int{math.MinInt, -1 << 32, -8, -1, 0, 9, 10, 1 << 32, 1<<32 + 1, math.MaxInt} {
		if n, e := New(nodes); n != nil || e != api.ErrRange {
			t.Errorf("New(%d): %v, %v", nodes, n, e)
		}
	}
	for nodes := 1; nodes <= api.MaxNodes; nodes++ {
		has(t, "new", made(t, nodes))
	}
}

// P12.1 and P12.2: packets stand in the row in which they were sent, whatever is in them.
func TestSend(t *testing.T) {
	many := letter(1, 2, string(bytes.Repeat([]byte{0, 255}, 50000)))
	for _, list := range [][]Packet{
		{}, {a}, {a, b}, {b, a}, {a, a, a}, {a, b, c, d, a, c}, {many, a, many},
		{letter(0, 0, "to itself"), letter(2, 2, ""), {From: 1, To: 1}, {Bytes: []byte{}}},
	} {
		has(t, "sent", made(t, 3, list...), list...)
	}
	one, other := made(t, 3, a), made(t, 3, b)
	has(t, "one network", one, a)
	has(t, "another network", other, b)
}

// P12.2: nodes that are there, and such that aren't.
func TestNodes(t *testing.T) {
	wrong := []int{math.MinInt, -1 << 32, -1, 1 << 32, math.MaxInt}
	for nodes := 1; nodes <= api.MaxNodes; nodes++ {
		n := made(t, nodes)
		for from := -1; from <= 9; from++ {
			for to := -1; to <= 9; to++ {
				want := api.OK
				if from < 0 || from >= nodes || to < 0 || to >= nodes {
					want = api.ErrRange
				}
				before := n.Len()
				if e := n.Send(letter(from, to, "x")); e != want || (n.Len() == before) != (want != api.OK) {
					t.Errorf("%d nodes: Send from %d to %d: %v, want %v", nodes, from, to, e, want)
				}
			}
		}
		if n.Len() != nodes*nodes {
			t.Errorf("%d nodes: %d packets", nodes, n.Len())
		}
		for _, x := range wrong {
			if n.Send(letter(x, 0, "x")) != api.ErrRange || n.Send(letter(0, x, "x")) != api.ErrRange || n.Send(letter(x, x, "x")) != api.ErrRange || n.Len() != nodes*nodes {
				t.Errorf("%d nodes: a packet of node %d", nodes, x)
			}
		}
	}
}

// P12.2 and P12.3: so many packets are on their way at most; a packet of no node is refused for that first, and one that isn't there too.
func TestFull(t *testing.T) {
	if MaxFlight != 4096 {
		t.Errorf("MaxFlight: %d", MaxFlight)
	}
	n := full(t)
	before := tell(n.Packets())
	for range 2 {
		if n.Send(a) != api.ErrFull || n.Copy(0) != api.ErrFull || n.Copy(MaxFlight-1) != api.ErrFull {
			t.Error("one packet too many")
		}
		if n.Send(letter(2, 0, "")) != api.ErrRange || n.Send(letter(0, 2, "")) != api.ErrRange || n.Copy(MaxFlight) != api.ErrMissing || n.Copy(-1) != api.ErrMissing {
			t.Error("a wrong packet too many")
		}
	}
	if n.Len() != MaxFlight || !slices.Equal(tell(n.Packets()), before) {
		t.Errorf("what was refused changed something: Len %d", n.Len())
	}
	// Room for one is there again, by a packet that was delivered, and by one that was lost.
	if p, e := n.Deliver(1); e != api.OK || string(p.Bytes) != "1" || n.Copy(0) != api.OK || n.Copy(0) != api.ErrFull || n.Send(a) != api.ErrFull {
		t.Error("room for a copy")
	}
	if p, e := n.Deliver(MaxFlight - 1); e != api.OK || string(p.Bytes) != "0" || n.Send(b) != api.OK || n.Send(a) != api.ErrFull {
		t.Error("room for a packet")
	}
	if lost := n.Lose(0); lost != 1 || n.Send(a) != api.OK || n.Send(a) != api.ErrFull || n.Len() != MaxFlight {
		t.Errorf("room behind %d that were lost", lost)
	}
}

// P12.3: Deliver, and the chapter's example.
func TestDeliver(t *testing.T) {
	n := made(t, 2, a, b)
	if p, e := n.Deliver(1); e != api.OK || !slices.Equal(tell([]Packet{p}), tell([]Packet{b})) {
		t.Errorf("Deliver: %v, %v", p, e)
	}
	has(t, "delivered", n, a)
	list := []Packet{a, b, c, d}
	for i, want := range list {
		n := made(t, 3, list...)
		if p, e := n.Deliver(i); e != api.OK || !slices.Equal(tell([]Packet{p}), tell([]Packet{want})) {
			t.Errorf("Deliver(%d): %v, %v", i, p, e)
		}
		has(t, fmt.Sprint("without packet ", i), n, slices.Delete(slices.Clone(list), i, i+1)...)
		if e := n.Send(a); e != api.OK {
			t.Errorf("Send: %v", e)
		}
		has(t, fmt.Sprint("another for packet ", i), n, append(slices.Delete(slices.Clone(list), i, i+1), a)...)
	}
}

// P12.3 and P12.4: numbers of which there is no packet.
func TestNoSuchPacket(t *testing.T) {
	for _, list := range [][]Packet{nil, {a}, {a, b, c}} {
		n := made(t, 3, list...)
		for _, i := range []int{math.MinInt, -1 << 32, -2, -1, len(list), len(list) + 1, 4, 8, MaxFlight, 1 << 32, math.MaxInt} {
			if p, e := n.Deliver(i); e != api.ErrMissing || p.From != 0 || p.To != 0 || p.Bytes != nil {
				t.Errorf("Deliver(%d): %v, %v", i, p, e)
			}
			if e := n.Copy(i); e != api.ErrMissing {
				t.Errorf("Copy(%d): %v", i, e)
			}
			for _, bit := range []int{-1, 0, 8, math.MinInt, math.MaxInt} {
				if e := n.Flip(i, bit); e != api.ErrMissing {
					t.Errorf("Flip(%d, %d): %v", i, bit, e)
				}
			}
			has(t, "refused", n, list...)
		}
	}
	n := made(t, 3, a, b, c)
	n.Deliver(0)
	n.Lose(0)
	if _, e := n.Deliver(1); e != api.ErrMissing || n.Copy(1) != api.ErrMissing || n.Flip(1, 0) != api.ErrMissing {
		t.Error("a packet that was there is there yet")
	}
	has(t, "gone", n, c)
}

// P12.3: Copy.
func TestCopy(t *testing.T) {
	for i, want := range []Packet{a, b, c} {
		n := made(t, 3, a, b, c)
		if e := n.Copy(i); e != api.OK {
			t.Errorf("Copy(%d): %v", i, e)
		}
		has(t, fmt.Sprint("copied ", i), n, a, b, c, want)
		if e := n.Copy(3); e != api.OK {
			t.Errorf("Copy of a copy: %v", e)
		}
		has(t, fmt.Sprint("copied twice ", i), n, a, b, c, want, want)
	}
	n := made(t, 1, Packet{})
	n.Copy(0)
	has(t, "a copy of nothing", n, Packet{}, Packet{})
}

// P12.4: each bit of each byte, there and back.
func TestFlip(t *testing.T) {
	text := "\x00\xffq"
	for bit := range 24 {
		n := made(t, 3, a, letter(1, 2, text), b)
		want := []byte(text)
		want[bit/8] ^= []byte{1, 2, 4, 8, 16, 32, 64, 128}[bit%8]
		if e := n.Flip(1, bit); e != api.OK {
			t.Errorf("Flip(1, %d): %v", bit, e)
		}
		has(t, fmt.Sprint("turned bit ", bit), n, a, letter(1, 2, string(want)), b)
		n.Flip(1, bit)
		has(t, fmt.Sprint("turned back bit ", bit), n, a, letter(1, 2, text), b)
	}
}

// P12.4: bits that a packet doesn't have.
func TestFlipOfNoBit(t *testing.T) {
	for _, text := range []string{"", "q", "qqq"} {
		n := made(t, 3, letter(0, 1, text), letter(0, 1, "quite another"))
		for _, bit := range []int{math.MinInt, -1 << 32, -8, -7, -1, 8 * len(text), 8*len(text) + 1, 8*len(text) + 7, 8*len(text) + 8, 1 << 32, math.MaxInt} {
			if e := n.Flip(0, bit); e != api.ErrRange {
				t.Errorf("%q: Flip(0, %d): %v", text, bit, e)
			}
		}
		has(t, "refused", n, letter(0, 1, text), letter(0, 1, "quite another"))
	}
}

// P12.4 and P12.3: of a packet and its copies each has bytes of its own.
func TestFlipOfCopies(t *testing.T) {
	n := made(t, 2, a)
	n.Copy(0)
	n.Copy(0)
	n.Flip(1, 1)
	has(t, "a copy is turned", n, a, letter(0, 1, "c"), a)
	n.Flip(0, 0)
	n.Copy(1)
	has(t, "the first is turned", n, letter(0, 1, "`"), letter(0, 1, "c"), a, letter(0, 1, "c"))
	if p, e := n.Deliver(0); e != api.OK || string(p.Bytes) != "`" {
		t.Errorf("Deliver: %v, %v", p, e)
	}
	has(t, "the first is delivered", n, letter(0, 1, "c"), a, letter(0, 1, "c"))
}

// P12.4: Lose.
func TestLose(t *testing.T) {
	list := []Packet{a, b, c, d, a, b, letter(1, 1, "e")}
	for _, x := range []struct {
		to, lost int
		left     []Packet
	}{
		{0, 2, []Packet{a, c, d, a, letter(1, 1, "e")}}, {1, 4, []Packet{b, c, b}}, {2, 1, []Packet{a, b, d, a, b, letter(1, 1, "e")}},
		{3, 0, list}, {-1, 0, list}, {8, 0, list}, {math.MinInt, 0, list}, {math.MaxInt, 0, list}, {1 << 32, 0, list},
	} {
		n := made(t, 4, list...)
		if lost := n.Lose(x.to); lost != x.lost {
			t.Errorf("Lose(%d): %d, want %d", x.to, lost, x.lost)
		}
		has(t, fmt.Sprint("lost to ", x.to), n, x.left...)
		if lost := n.Lose(x.to); lost != 0 {
			t.Errorf("Lose(%d) once more: %d", x.to, lost)
		}
		n.Send(d)
		has(t, fmt.Sprint("and one sent behind those lost to ", x.to), n, append(slices.Clone(x.left), d)...)
	}
	n := full(t)
	if n.Lose(0) != 0 || n.Lose(1) != MaxFlight || n.Lose(1) != 0 {
		t.Error("Lose of all")
	}
	has(t, "all lost", n)
}

// P2: what is sent is neither changed nor kept, its spare room neither.
func TestPacketsThatAreSent(t *testing.T) {
	memory := []byte("abcdefgh")
	n := made(t, 2)
	n.Send(Packet{From: 0, To: 1, Bytes: memory[:3]})
	n.Send(Packet{From: 0, To: 1, Bytes: memory[2:5]})
	n.Flip(0, 0)
	n.Flip(1, 1)
	n.Copy(0)
	n.Deliver(0)
	if string(memory) != "abcdefgh" {
		t.Errorf("changed: %q", memory)
	}
	clear(memory)
	has(t, "kept", n, letter(0, 1, "ade"), letter(0, 1, "`bc"))
}

// P2: what is answered is new memory, with its spare room.
func TestPacketsThatAreAnswered(t *testing.T) {
	scribble := func(p Packet) { clear(p.Bytes[:cap(p.Bytes)]) }
	n := made(t, 3, a, b, c, d)
	n.Copy(0)
	first, second := n.Packets(), n.Packets()
	for _, p := range first {
		scribble(p)
	}
	clear(first[:cap(first)])
	if want := []Packet{a, b, c, d, a}; !slices.Equal(tell(second), tell(want)) {
		t.Errorf("two answers are one: %v", tell(second))
	}
	has(t, "scribbled on an answer", n, a, b, c, d, a)
	p, _ := n.Deliver(0)
	scribble(p)
	has(t, "scribbled on a packet", n, b, c, d, a)
	p, _ = n.Deliver(2)
	n.Flip(2, 0)
	n.Lose(0)
	n.Send(b)
	if string(p.Bytes) != "d" {
		t.Errorf("a packet that was delivered is worked on: %q", p.Bytes)
	}
	if !slices.Equal(tell(second), tell([]Packet{a, b, c, d, a})) {
		t.Errorf("an answer is kept: %v", tell(second))
	}
	has(t, "at last", n, c, letter(0, 1, "`"), b)
}

// P2: of what is delivered or lost nothing is kept, in whatever order it goes.
func TestNothingIsKeptOfWhatIsGone(t *testing.T) {
	for _, order := range [][]int{{0, 0, 0, 0}, {3, 2, 1, 0}, {0, 2, 0, 0}, {1, 1, 1}, {2, 1}, {3}, {0}, {-1}, {-2}, {3, -1}, {0, -2}} {
		n := made(t, 2)
		var seen []weak.Pointer[byte]
		for i := range 4 {
			n.Send(Packet{To: i % 2, Bytes: make([]byte, 1000)})
			seen = append(seen, weak.Make(&n.flight[i].Bytes[0]))
		}
		for _, i := range order {
			if i < 0 {
				n.Lose(-1 - i)
			} else {
				n.Deliver(i)
			}
		}
		runtime.GC()
		kept := 0
		for _, x := range seen {
			if x.Value() != nil {
				kept++
			}
		}
		if kept != n.Len() {
			t.Errorf("behind %v %d packets are kept, %d are on their way", order, kept, n.Len())
		}
		runtime.KeepAlive(n)
	}
}

// model is a network as P12.1 to P12.4 tell it, told once more in a plainer way: From, To and the text of each packet.
type model struct {
	nodes   int
	packets []string
}

func (m *model) send(p string) api.Errno {
	for _, node := range p[:2] {
		if int(node) >= m.nodes {
			return api.ErrRange
		}
	}
	if len(m.packets) == 4096 {
		return api.ErrFull
	}
	m.packets = append(m.packets, p)
	return api.OK
}

func (m *model) flip(i, bit int) api.Errno {
	switch text := []byte(m.packets[i]); {
	case bit >= 8*(len(text)-2):
		return api.ErrRange
	default:
		text[2+bit/8] ^= byte(math.Pow(2, float64(bit%8)))
		m.packets[i] = string(text)
		return api.OK
	}
}

func (m *model) lose(to byte) int {
	lost := 0
	for i := len(m.packets) - 1; i >= 0; i-- {
		if m.packets[i][1] == to {
			m.packets = slices.Concat(m.packets[:i], m.packets[i+1:])
			lost++
		}
	}
	return lost
}

// play: any calls of a network, as some bytes say, against its model.
func play(t *testing.T, nodes int, calls []byte) {
	t.Helper()
	n, m := made(t, nodes), &model{nodes: nodes}
	text := func(p Packet) string { return string([]byte{byte(p.From), byte(p.To)}) + string(p.Bytes) }
	for ; len(calls) >= 3; calls = calls[3:] {
		i, x := int(calls[1]), calls[2]
		var e, want api.Errno
		there := i < len(m.packets)
		switch calls[0] % 8 {
		case 0:
			var p Packet
			p, e = n.Deliver(i)
			if want = api.ErrMissing; there {
				want = api.OK
				if text(p) != m.packets[i] {
					t.Fatalf("Deliver(%d): %v, want %q", i, p, m.packets[i])
				}
				m.packets = slices.Concat(m.packets[:i], m.packets[i+1:])
			}
		case 1:
			e = n.Copy(i)
			if want = api.ErrMissing; there {
				want = m.send(m.packets[i])
			}
		case 2, 3:
			e = n.Flip(i, int(x))
			if want = api.ErrMissing; there {
				want = m.flip(i, int(x))
			}
		case 4:
			if lost, plain := n.Lose(i), m.lose(byte(i)); lost != plain {
				t.Fatalf("Lose(%d): %d, want %d", i, lost, plain)
			}
		default:
			p := Packet{From: i & 15, To: i >> 4, Bytes: bytes.Repeat(calls[:1], int(x)%40)}
			e, want = n.Send(p), m.send(text(p))
		}
		if e != want || n.Len() != len(m.packets) {
			t.Fatalf("call %v: %v, Len %d, want %v, %d", calls[:3], e, n.Len(), want, len(m.packets))
		}
	}
	for i, p := range n.Packets() {
		if text(p) != m.packets[i] {
			t.Fatalf("packet %d: %v, want %q", i, p, m.packets[i])
		}
	}
}

// P12.1 to P12.4: any calls, one behind the other.
func TestAnyCalls(t *testing.T) {
	r := rand.New(rand.NewSource(12))
	for range 3000 {
		calls := make([]byte, 3*r.Intn(100))
		r.Read(calls)
		for i := 1; i < len(calls); i += 3 {
			calls[i] &= 0x77 >> r.Intn(5)
		}
		play(t, 1+r.Intn(8), calls)
	}
}

// P1, and what holds of all networks.
func FuzzNothingPanics(f *testing.F) {
	f.Add(2, 0, 0, 0, 0, []byte{5, 0x10, 3, 5, 0x01, 3, 0, 1, 0})
	f.Add(0, -1, -1, math.MinInt, math.MaxInt, []byte{})
	f.Add(9, 8, 7, 1, 8, []byte{5, 0x33, 9, 1, 0, 0, 2, 1, 7, 4, 3, 0})
	f.Fuzz(func(t *testing.T, nodes, from, to, i, bit int, calls []byte) {
		n, e := New(nodes)
		if (n == nil) == (e == api.OK) {
			t.Fatalf("New(%d): %v, %v", nodes, n, e)
		}
		if n == nil {
			play(t, 1+nodes&7, calls)
			return
		}
		play(t, nodes, calls)
		sent := n.Send(Packet{From: from, To: to, Bytes: calls}) == api.OK
		n.Copy(i)
		n.Flip(i, bit)
		p, e := n.Deliver(i)
		if (e == api.OK) != (sent && (i == 0)) || e == api.OK && (p.From != from || p.To != to || len(p.Bytes) != len(calls)) {
			t.Errorf("Deliver(%d): %v, %v", i, p, e)
		}
		if lost := n.Lose(to); lost > 2 || (lost > 0) != sent || n.Len() != 0 {
			t.Errorf("Lose(%d): %d, Len %d", to, lost, n.Len())
		}
	})
}
