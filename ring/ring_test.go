package ring

import (
	"fmt"
	"math"
	"math/big"
	"math/rand"
	"reflect"
	"slices"
	"strings"
	"testing"

	"porter/api"
)

// owners: a table at an epoch; the digits are who owns slot 0, slot 1 and so on.
func owners(epoch int64, digits string) Table {
	t := Table{Epoch: epoch}
	for slot := range t.Owners {
		t.Owners[slot] = int(digits[slot] - '0')
	}
	return t
}

// slowHash is Hash as P11.1 tells it, reckoned in great numbers.
func slowHash(s string) uint32 {
	modulus := new(big.Int).Lsh(big.NewInt(1), 32)
	times := func(h *big.Int, by int64) { h.Mod(h.Mul(h, big.NewInt(by)), modulus) }
	down := func(h *big.Int, by uint) { h.Xor(h, new(big.Int).Rsh(h, by)) }
	h := big.NewInt(2166136261)
	for _, b := range []byte(s) {
		h.Xor(h, big.NewInt(int64(b)))
		times(h, 16777619)
	}
	down(h, 16)
	times(h, 2246822507)
	down(h, 13)
	times(h, 3266489909)
	down(h, 16)
	return uint32(h.Uint64())
}

// slowNew is New as P11.2 tells it: points in order of their places, gone through upwards from each slot's.
func slowNew(nodes, points int) [api.Slots]int {
	type at struct{ place, node int }
	var ring []at
	for n := range nodes {
		for p := range points {
			ring = append(ring, at{int(slowHash(fmt.Sprintf("node %d point %d", n, p))), n})
		}
	}
	slices.SortFunc(ring, func(a, b at) int { return (a.place-b.place)*16 + a.node - b.node })
	var table [api.Slots]int
	for slot := range table {
		place := int(slowHash(fmt.Sprintf("slot %d", slot)))
		i := slices.IndexFunc(ring, func(p at) bool { return p.place >= place })
		table[slot] = ring[max(i, 0)].node
	}
	return table
}

// P11.1
func TestHash(t *testing.T) {
	bytes := make([]byte, 256)
	for i := range bytes {
		bytes[i] = byte(i)
	}
	for _, c := range []struct {
		text string
		hash uint32
		slot int
	}{
		{"", 0xab3e7c0b, 11}, {"a", 0x1a80b1b3, 3}, {"b", 0x82c46232, 2}, {"ab", 0x98cc640d, 13}, {"ba", 0x241c5d95, 5},
		{"\x00", 0x0578ab1b, 11}, {"\xff", 0xb8c37e1d, 13}, {"é", 0x8e4756c7, 7}, {string(bytes), 0xf8c36466, 6}, {strings.Repeat("x", 100000), 0x0c14818f, 15},
		{"doc:a", 0x3471a643, 3}, {"slot 0", 0x4d84ff55, 5}, {"slot 15", 0xf4aacc58, 8}, {"node 0 point 0", 0xd95dd88c, 12}, {"node 7 point 63", 0xaae34578, 8},
	} {
		if hash, slot := Hash(c.text), Slot(c.text); hash != c.hash || slot != c.slot {
			t.Errorf("%.20q: Hash %08x, Slot %d, want %08x, %d", c.text, hash, slot, c.hash, c.slot)
		}
	}
}

// P11.1: any texts, of any bytes.
func TestHashOfAnyTexts(t *testing.T) {
	r := rand.New(rand.NewSource(11))
	var seen [api.Slots]int
	for range 5000 {
		text := make([]byte, r.Intn(40))
		r.Read(text)
		want := slowHash(string(text))
		if hash, slot := Hash(string(text)), Slot(string(text)); hash != want || slot != int(want%16) {
			t.Fatalf("%q: Hash %08x, Slot %d, want %08x", text, hash, slot, want)
		}
		seen[want%16]++
	}
	if slices.Min(seen[:]) < 200 {
		t.Errorf("the slots aren't met alike: %v", seen)
	}
}

// P11.2: the numbers that are refused.
func TestNewRefused(t *testing.T) {
	if MaxPoints != 64 {
		t.Errorf("MaxPoints: %d", MaxPoints)
	}
	wrong := []int{math.MinInt, -1 << 32, -1, 0, 65, 1 << 32, 1<<32 + 1, math.MaxInt}
	for _, x := range wrong {
		for _, right := range []int{1, 3, 8} {
			for _, c := range [][2]int{{x, right}, {right, x}, {x, x}} {
				if table, e := New(c[0], c[1]); e != api.ErrRange || table != (Table{}) {
					t.Errorf("New%v: %v, %v", c, table, e)
				}
			}
		}
	}
	for _, points := range []int{1, 64} {
		if table, e := New(9, points); e != api.ErrRange || table != (Table{}) {
			t.Errorf("New(9, %d): %v, %v", points, table, e)
		}
	}
}

// P11.2: among these are tables in which a slot lies above all points, and such with none (8 nodes with 64 points).
func TestNew(t *testing.T) {
	for _, c := range []struct {
		nodes, points int
		want          [api.Slots]int
	}{
		{1, 1, [api.Slots]int{}},
		{2, 1, [api.Slots]int{1, 1, 1, 1, 1, 1, 1, 0, 0, 0, 1, 0, 1, 1, 0, 1}},
		{3, 8, [api.Slots]int{1, 2, 2, 0, 1, 1, 2, 2, 2, 0, 0, 0, 1, 2, 0, 2}},
		{8, 1, [api.Slots]int{4, 2, 2, 6, 6, 6, 2, 5, 0, 5, 6, 0, 2, 6, 0, 2}},
		{2, 64, [api.Slots]int{1, 0, 1, 0, 1, 1, 1, 0, 0, 1, 1, 0, 0, 0, 0, 0}},
		{5, 10, [api.Slots]int{2, 2, 3, 0, 1, 1, 3, 2, 2, 0, 0, 4, 1, 2, 4, 3}},
		{7, 2, [api.Slots]int{4, 5, 5, 6, 1, 1, 5, 5, 0, 5, 6, 0, 3, 6, 0, 5}},
		{8, 64, [api.Slots]int{1, 0, 2, 0, 1, 7, 3, 0, 5, 1, 4, 3, 0, 4, 3, 7}},
	} {
		if table, e := New(c.nodes, c.points); e != api.OK || table != (Table{Owners: c.want}) {
			t.Errorf("New(%d, %d): %v, %v, want %v", c.nodes, c.points, table, e, c.want)
		}
	}
}

// P11.2: all tables that there are.
func TestNewOfAllNumbers(t *testing.T) {
	for nodes := 1; nodes <= api.MaxNodes; nodes++ {
		for points := 1; points <= MaxPoints; points++ {
			table, e := New(nodes, points)
			if want := slowNew(nodes, points); e != api.OK || table.Epoch != 0 || table.Owners != want {
				t.Errorf("New(%d, %d): %v, %v, want %v", nodes, points, table, e, want)
			}
			if table.Check(nodes) != api.OK {
				t.Errorf("New(%d, %d): Check: %v", nodes, points, table)
			}
		}
	}
}

// P11.2: points at one place, which the texts that are hashed here don't have, and points at the ends of the ring.
func TestOwnersOfPoints(t *testing.T) {
	const top = math.MaxUint32
	for _, c := range []struct {
		place uint32
		ring  []point
		want  int
	}{
		{5, []point{{5, 0}, {5, 1}}, 0}, {4, []point{{5, 0}, {5, 1}}, 0}, {6, []point{{5, 0}, {5, 1}}, 0}, {6, []point{{7, 0}, {5, 0}, {6, 1}, {6, 2}}, 1},
		{5, []point{{4, 0}, {5, 1}, {6, 2}}, 1}, {6, []point{{4, 0}, {5, 1}, {6, 2}}, 2}, {7, []point{{4, 0}, {5, 1}, {6, 2}}, 0}, {7, []point{{6, 0}, {5, 1}, {4, 2}}, 2},
		{0, []point{{top, 0}, {0, 1}}, 1}, {1, []point{{0, 0}, {top, 1}}, 1}, {top, []point{{0, 0}, {top, 1}}, 1}, {top, []point{{top - 1, 0}, {0, 1}}, 1}, {top, []point{{1, 0}, {0, 1}}, 1},
		{1 << 31, []point{{1<<31 - 1, 0}, {0, 1}}, 1}, {1 << 31, []point{{1<<31 - 1, 0}, {top, 1}}, 1}, {0, []point{{1 << 31, 0}, {1<<31 + 1, 1}}, 0},
	} {
		if node := ownerOf(c.place, c.ring); node != c.want {
			t.Errorf("%d on %v: %d, want %d", c.place, c.ring, node, c.want)
		}
	}
}

// P11.3: Check.
func TestCheck(t *testing.T) {
	with := func(epoch int64, slot, owner int) Table {
		table := owners(epoch, "0120120120120120")
		table.Owners[slot] = owner
		return table
	}
	for _, c := range []struct {
		table Table
		nodes int
		want  api.Errno
	}{
		{Table{}, 1, api.OK}, {Table{}, 8, api.OK}, {Table{}, 0, api.ErrRange}, {Table{}, -1, api.ErrRange}, {Table{}, math.MinInt, api.ErrRange}, {Table{}, math.MaxInt, api.OK},
		{with(0, 0, 0), 3, api.OK}, {with(0, 0, 0), 2, api.ErrRange}, {with(0, 0, 0), 4, api.OK},
		{with(1, 0, 2), 3, api.OK}, {with(1, 0, 3), 3, api.ErrRange}, {with(1, 15, 3), 3, api.ErrRange}, {with(1, 7, 3), 3, api.ErrRange},
		{with(1, 0, -1), 3, api.ErrRange}, {with(1, 15, -1), 3, api.ErrRange}, {with(1, 15, math.MinInt), 3, api.ErrRange}, {with(1, 15, math.MaxInt), 3, api.ErrRange}, {with(1, 15, math.MaxInt), math.MaxInt, api.ErrRange},
		// Of what may be at most only the nodes' number is asked.
		{with(1, 3, 8), 9, api.OK}, {with(1, 3, 1000), 1001, api.OK}, {with(1, 3, 1000), 1000, api.ErrRange},
		{with(-1, 0, 0), 3, api.ErrRange}, {with(math.MinInt64, 0, 0), 3, api.ErrRange}, {with(api.MaxRev, 0, 0), 3, api.OK}, {with(api.MaxRev+1, 0, 0), 3, api.OK}, {with(math.MaxInt64, 0, 0), 3, api.OK},
	} {
		if e := c.table.Check(c.nodes); e != c.want {
			t.Errorf("%v: Check(%d): %v, want %v", c.table, c.nodes, e, c.want)
		}
	}
}

// P11.3: Owner.
func TestOwner(t *testing.T) {
	table := Table{Epoch: 3}
	for slot := range table.Owners {
		table.Owners[slot] = 100 - slot
	}
	table.Owners[15] = -7
	for object, want := range map[string]int{"doc:a": 97, "doc:e": 98, "doc:b": 93, "doc:4": 100, "doc:0": -7, "doc:_": -7, "": 89, "\xff": 87, "no object": 100 - Slot("no object")} {
		if owner := table.Owner(object); owner != want {
			t.Errorf("Owner(%q): %d, want %d", object, owner, want)
		}
	}
}

// P11.3: Slots.
func TestSlots(t *testing.T) {
	table := owners(2, "0120120120120121")
	table.Owners[4], table.Owners[6], table.Owners[9] = -5, math.MaxInt, math.MinInt
	for _, c := range []struct {
		node int
		want []int
	}{
		{0, []int{0, 3, 12}}, {1, []int{1, 7, 10, 13, 15}}, {2, []int{2, 5, 8, 11, 14}}, {3, nil}, {-5, []int{4}}, {math.MaxInt, []int{6}}, {math.MinInt, []int{9}}, {-1, nil}, {16, nil},
	} {
		if slots := table.Slots(c.node); !slices.Equal(slots, c.want) {
			t.Errorf("Slots(%d): %v, want %v", c.node, slots, c.want)
		}
	}
	if slots := (Table{Epoch: -1}).Slots(0); !slices.Equal(slots, []int{0, 1, 2, 3, 4, 5, 6, 7, 8, 9, 10, 11, 12, 13, 14, 15}) {
		t.Errorf("Slots of a node that owns all: %v", slots)
	}
}

// P11.3: Diff.
func TestDiff(t *testing.T) {
	for _, c := range []struct {
		a, b string
		want []int
	}{
		{"0000000000000000", "0000000000000000", nil}, {"0120120120120120", "0120120120120120", nil},
		{"1000000000000000", "0000000000000000", []int{0}}, {"0000000000000000", "0000000000000001", []int{15}}, {"1000000000000001", "0000000000000002", []int{0, 15}},
		{"0123456701234567", "0123546701234567", []int{4, 5}}, {"9000000000000000", "/000000000000000", []int{0}},
		{"0000000000000000", "1111111111111111", []int{0, 1, 2, 3, 4, 5, 6, 7, 8, 9, 10, 11, 12, 13, 14, 15}},
	} {
		for _, epochs := range [][2]int64{{0, 0}, {1, 2}, {-1, math.MaxInt64}} {
			a, b := owners(epochs[0], c.a), owners(epochs[1], c.b)
			if there, back := Diff(a, b), Diff(b, a); !slices.Equal(there, c.want) || !slices.Equal(back, c.want) {
				t.Errorf("Diff(%v, %v): %v and %v, want %v", a, b, there, back, c.want)
			}
		}
	}
}

// P11.4, and the chapter's example.
func TestMove(t *testing.T) {
	first, _ := New(3, 8)
	next, e := first.Move(5, first.Owners[5]+1)
	if e != api.OK || next.Epoch != 1 || !slices.Equal(Diff(next, first), []int{5}) {
		t.Errorf("Move: %v, %v", next, e)
	}
	for _, c := range []struct {
		table    Table
		slot, to int
		want     Table
	}{
		{owners(0, "0000000000000000"), 0, 1, owners(1, "1000000000000000")}, {owners(1, "0120120120120120"), 15, 7, owners(2, "0120120120120127")},
		{owners(7, "0120120120120120"), 1, 0, owners(8, "0020120120120120")}, {owners(api.MaxRev-1, "0000000000000000"), 3, 2, owners(api.MaxRev, "0002000000000000")},
		// Who owned the slot, or owns the others, isn't asked for.
		{owners(4, "9./0000000000000"), 1, 0, owners(5, "90/0000000000000")},
	} {
		if next, e := c.table.Move(c.slot, c.to); e != api.OK || next != c.want {
			t.Errorf("%v: Move(%d, %d): %v, %v, want %v", c.table, c.slot, c.to, next, e, c.want)
		}
	}
}

// P11.4: what is refused, and in which order.
func TestMoveRefused(t *testing.T) {
	table := owners(4, "012012012012012/")
	for _, c := range []struct {
		epoch    int64
		slot, to int
		want     api.Errno
	}{
		{4, -1, 3, api.ErrRange}, {4, 16, 3, api.ErrRange}, {4, math.MinInt, 3, api.ErrRange}, {4, math.MaxInt, 3, api.ErrRange}, {4, 1 << 32, 3, api.ErrRange},
		{4, 5, -1, api.ErrRange}, {4, 5, 8, api.ErrRange}, {4, 5, math.MinInt, api.ErrRange}, {4, 5, math.MaxInt, api.ErrRange}, {4, 5, 1 << 32, api.ErrRange},
		{-1, 5, 3, api.ErrRange}, {math.MinInt64, 5, 3, api.ErrRange}, {api.MaxRev, 5, 3, api.ErrRange}, {api.MaxRev + 1, 5, 3, api.ErrRange}, {math.MaxInt64, 5, 3, api.ErrRange},
		{4, 5, 2, api.ErrTwice}, {4, 0, 0, api.ErrTwice}, {0, 14, 2, api.ErrTwice}, {api.MaxRev - 1, 14, 2, api.ErrTwice},
		{-1, 5, 2, api.ErrRange}, {api.MaxRev, 5, 2, api.ErrRange}, {4, 15, -1, api.ErrRange}, {-1, -1, -1, api.ErrRange},
	} {
		table.Epoch = c.epoch
		before := table
		if next, e := table.Move(c.slot, c.to); e != c.want || next != (Table{}) || table != before {
			t.Errorf("%v: Move(%d, %d): %v, %v, want %v", before, c.slot, c.to, next, e, c.want)
		}
	}
}

// P2: a table that was moved from, or to, is a table of its own.
func TestTablesOfTheirOwn(t *testing.T) {
	first := owners(0, "0120120120120120")
	second, _ := first.Move(5, 7)
	third, _ := second.Move(6, 7)
	second.Owners[0], second.Epoch = 6, 20
	if first != owners(0, "0120120120120120") || third != owners(2, "0120177120120120") {
		t.Errorf("%v, %v", first, third)
	}
	if again, _ := New(3, 8); again.Owners[0] != 1 {
		t.Errorf("%v", again)
	}
	table, _ := New(3, 8)
	table.Owners[0] = 5
	if again, _ := New(3, 8); again.Owners[0] != 1 {
		t.Errorf("what New answered is kept: %v", again)
	}
}

// P2: lists that are answered are new memory, with their spare room.
func TestMemory(t *testing.T) {
	a, b := owners(0, "0120120120120120"), owners(1, "0120120120120021")
	for range 3 {
		slots, diff := a.Slots(1), Diff(a, b)
		if !slices.Equal(slots, []int{1, 4, 7, 10, 13}) || !slices.Equal(diff, []int{13, 15}) {
			t.Fatalf("Slots %v, Diff %v", slots, diff)
		}
		other, again := a.Slots(1), Diff(a, b)
		clear(slots[:cap(slots)])
		clear(diff[:cap(diff)])
		if !slices.Equal(other, []int{1, 4, 7, 10, 13}) || !slices.Equal(again, []int{13, 15}) {
			t.Fatalf("Slots %v, Diff %v behind a scribble", other, again)
		}
	}
}

// P1, and what holds of all tables.
func FuzzNothingPanics(f *testing.F) {
	f.Add("doc:a", int64(0), []byte{0, 1, 2}, 5, 1, 3)
	f.Add("", int64(-1), []byte{255}, -1, 8, 0)
	f.Add("\xff", int64(api.MaxRev), []byte{}, 16, 7, math.MinInt)
	f.Fuzz(func(t *testing.T, text string, epoch int64, who []byte, slot, to, nodes int) {
		if Hash(text) != slowHash(text) || Slot(text) != int(slowHash(text)%16) {
			t.Errorf("Hash(%q): %d", text, Hash(text))
		}
		if table, e := New(nodes, to); e == api.OK && table.Check(nodes) != api.OK || e != api.OK && table != (Table{}) {
			t.Errorf("New(%d, %d): %v, %v", nodes, to, table, e)
		}
		table := Table{Epoch: epoch}
		for i := range min(len(who), api.Slots) {
			table.Owners[i] = int(int8(who[i]))
		}
		before := table
		if table.Owner(text) != table.Owners[Slot(text)] {
			t.Errorf("Owner(%q)", text)
		}
		right := epoch >= 0 && slices.Min(table.Owners[:]) >= 0 && slices.Max(table.Owners[:]) < nodes
		if (table.Check(nodes) == api.OK) != right {
			t.Errorf("%v: Check(%d): %v", table, nodes, table.Check(nodes))
		}
		next, e := table.Move(slot, to)
		if e != api.OK && next != (Table{}) || table != before {
			t.Errorf("%v: Move(%d, %d): %v, %v", table, slot, to, next, e)
		}
		if e == api.OK && (next.Epoch != epoch+1 || !reflect.DeepEqual(Diff(table, next), []int{slot}) || !slices.Contains(next.Slots(to), slot)) {
			t.Errorf("%v: Move(%d, %d): %v", table, slot, to, next)
		}
		for _, s := range table.Slots(to) {
			if table.Owners[s] != to {
				t.Errorf("%v: Slots(%d): %v", table, to, table.Slots(to))
			}
		}
	})
}
