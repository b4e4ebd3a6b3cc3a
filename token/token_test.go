package token

import (
	"math"
	"math/big"
	"math/rand"
	"reflect"
	"slices"
	"strings"
	"testing"

	"porter/api"
)

// order: the signs as the chapter tells them.
const order = "0123456789abcdefghjkmnpqrstuvwx"

// right: is a text of signs right? Reckoned with each place by itself.
func right(s string) bool {
	total := 0
	for i, sign := range strings.Split(s, "") {
		for range strings.Index(order, sign) {
			total += i + 1
		}
	}
	return total%31 == 0
}

// digits: a number that isn't below 0, as a token has it.
func digits(n *big.Int) string {
	if n.Sign() == 0 {
		return ""
	}
	text := ""
	for _, digit := range n.Text(31) {
		text += string(order[strings.IndexRune("0123456789abcdefghijklmnopqrstu", digit)])
	}
	return text
}

// closed: a text with each sign behind it that makes it right.
func closed(text string) []string {
	var list []string
	for _, sign := range strings.Split(order, "") {
		if right(text + sign) {
			list = append(list, text+sign)
		}
	}
	return list
}

// text: the text of some signs ahead of the last, that is right.
func text(t *testing.T, ahead string) string {
	t.Helper()
	list := closed(ahead)
	if len(list) != 1 {
		t.Fatalf("%q is made right by %q", ahead, list)
	}
	return list[0]
}

// slowParse is Parse as P23.2 tells it, reckoned in great numbers.
func slowParse(s string) (Token, api.Errno) {
	switch {
	case len(s) > 16:
		return Token{}, api.ErrLong
	case strings.Trim(s, order) != "":
		return Token{}, api.ErrByte
	case len(s) < 2:
		return Token{}, api.ErrShort
	case !right(s):
		return Token{}, api.ErrSum
	case s[1] == '0' && len(s) > 2:
		return Token{}, api.ErrForm
	}
	rev := new(big.Int)
	for _, sign := range s[1 : len(s)-1] {
		rev.Mul(rev, big.NewInt(31))
		rev.Add(rev, big.NewInt(int64(strings.IndexRune(order, sign))))
	}
	node := strings.IndexByte(order, s[0])
	if node > 7 || rev.Cmp(big.NewInt(1<<50)) > 0 {
		return Token{}, api.ErrRange
	}
	return Token{Node: node, Rev: rev.Int64()}, api.OK
}

// tokens: some that can be written, those at the edges among them.
func tokens() []Token {
	revs := []int64{0, 1, 2, 8, 9, 10, 18, 30, 31, 32, 61, 62, 960, 961, 962, api.MaxRev - 1, api.MaxRev}
	for power := int64(31); power < api.MaxRev; power *= 31 {
		revs = append(revs, power-1, power, power+1)
	}
	r := rand.New(rand.NewSource(23))
	for range 50 {
		revs = append(revs, r.Int63n(api.MaxRev+1)>>r.Intn(50))
	}
	var list []Token
	for node := range api.MaxNodes {
		for _, rev := range revs {
			list = append(list, Token{Node: node, Rev: rev})
		}
	}
	return list
}

// P23.1 and P23.2, and the chapter's example.
func TestKnownTexts(t *testing.T) {
	for want, x := range map[string]Token{
		"00": {}, "1f": {Node: 1}, "7c": {Node: 7}, "01m": {Rev: 1}, "0xb": {Rev: 30}, "010f": {Rev: 31}, "210x": {Node: 2, Rev: 31}, "7xxf": {Node: 7, Rev: 960},
	} {
		if !right(want) {
			t.Errorf("%q isn't right", want)
		}
		if s, e := Print(x); s != want || e != api.OK {
			t.Errorf("Print(%v): %q, %v, want %q", x, s, e, want)
		}
		if y, e := Parse(want); y != x || e != api.OK {
			t.Errorf("Parse(%q): %v, %v, want %v", want, y, e, x)
		}
	}
}

// P23.1 and P23.2: each token has its text, from which it is read.
func TestTokens(t *testing.T) {
	seen := map[string]Token{}
	for _, x := range tokens() {
		want := text(t, string(order[x.Node])+digits(big.NewInt(x.Rev)))
		s, e := Print(x)
		if s != want || e != api.OK || len(s) > 13 {
			t.Fatalf("Print(%v): %q, %v, want %q", x, s, e, want)
		}
		if y, e := Parse(s); y != x || e != api.OK {
			t.Fatalf("Parse(%q): %v, %v, want %v", s, y, e, x)
		}
		if y, found := seen[s]; found && y != x {
			t.Fatalf("%q is the text of %v and %v", s, x, y)
		}
		seen[s] = x
	}
}

// P23.1: what isn't written.
func TestPrintRefused(t *testing.T) {
	for _, node := range []int{math.MinInt, -1 << 32, -8, -1, 0, 7, 8, 9, 30, 31, 1 << 32, math.MaxInt} {
		for _, rev := range []int64{math.MinInt64, -1 << 50, -31, -1, 0, api.MaxRev, api.MaxRev + 1, 1 << 51, math.MaxInt64} {
			want := api.OK
			if node < 0 || node > 7 || rev < 0 || rev > 1<<50 {
				want = api.ErrRange
			}
			if s, e := Print(Token{Node: node, Rev: rev}); e != want || (s == "") != (want != api.OK) {
				t.Errorf("Print of node %d, revision %d: %q, %v, want %v", node, rev, s, e, want)
			}
		}
	}
}

// refused: is a text refused with an error?
func refused(t *testing.T, s string, want api.Errno) {
	t.Helper()
	if x, e := Parse(s); x != (Token{}) || e != want {
		t.Errorf("Parse(%q): %v, %v, want %v", s, x, e, want)
	}
}

// P23.2: each error, and which one is told where several apply.
func TestParseRefused(t *testing.T) {
	noughts := strings.Repeat("0", 20)
	refused(t, noughts[:17], api.ErrLong)
	refused(t, strings.Repeat("!", 17), api.ErrLong)
	refused(t, "210x"+noughts, api.ErrLong)
	refused(t, strings.Repeat("é", 9), api.ErrLong)
	refused(t, strings.Repeat("!", 16), api.ErrByte)
	refused(t, strings.Repeat("é", 8), api.ErrByte)
	refused(t, noughts[:15]+"i", api.ErrByte)
	refused(t, "!"+noughts[:15], api.ErrByte)
	refused(t, "i", api.ErrByte)
	for _, s := range []string{"210X", "210x ", " 210x", "210x\n", "210x\x00", "-210", "+10", "2,1"} {
		refused(t, s, api.ErrByte)
	}
	refused(t, "", api.ErrShort)
	refused(t, "1", api.ErrShort)
	refused(t, "x", api.ErrShort)
	for _, s := range []string{"01", "10", "0x", "210w", "2100", "120x", "201x", "001", noughts[:15] + "1", "800"} {
		refused(t, s, api.ErrSum)
	}
	refused(t, "000", api.ErrForm)
	refused(t, noughts[:16], api.ErrForm)
	for _, ahead := range []string{"10", "70", "001", "7000", "80", "x0", "80" + strings.Repeat("x", 13), "00" + strings.Repeat("x", 13)} {
		refused(t, text(t, ahead), api.ErrForm)
	}
	for _, ahead := range []string{"8", "9", "a", "x", "81", "x1", "8" + strings.Repeat("x", 14), "0" + strings.Repeat("x", 14), "01" + noughts[:13]} {
		refused(t, text(t, ahead), api.ErrRange)
	}
}

// P23.2: a revision above MaxRev isn't read, even if it comes round in 64 bits, or with a sign.
func TestGreatRevisions(t *testing.T) {
	var great []*big.Int
	for _, more := range []int64{1, 2, 30, 31, 1 << 20, 1 << 50} {
		great = append(great, big.NewInt(1<<50+more))
	}
	for rounds := range int64(42) {
		for _, more := range []int64{-1, 0, 1, 5, 1 << 40, 1 << 50, 1<<50 + 1, math.MaxInt64} {
			n := new(big.Int).Lsh(big.NewInt(rounds), 64)
			great = append(great, n.Add(n, big.NewInt(more)))
		}
	}
	met := map[int]int{}
	for _, n := range great {
		if n.Cmp(big.NewInt(1<<50)) <= 0 || len(digits(n)) > 14 {
			continue
		}
		met[len(digits(n))]++
		for node := range 31 {
			refused(t, text(t, string(order[node])+digits(n)), api.ErrRange)
		}
	}
	if met[11] == 0 || met[13] == 0 || met[14] < 100 {
		t.Errorf("not all sizes were met: %v", met)
	}
}

// P23.2: each byte.
func TestEachByte(t *testing.T) {
	for i := range 256 {
		s := string([]byte{byte(i)})
		want := api.ErrByte
		if strings.Contains(order, s) {
			want = api.ErrShort
		}
		refused(t, s, want)
		if want == api.ErrByte {
			refused(t, "210"+s, want)
			refused(t, s+"210x", want)
			refused(t, "0"+s+"0", want)
		}
	}
	for _, s := range strings.Split("ilotyz", "") {
		if _, e := Parse(s); (e == api.ErrByte) != (s != "t") {
			t.Errorf("Parse(%q): %v", s, e)
		}
	}
}

// P23.2: all texts of at most three signs, and any longer ones.
func TestTextsOfSigns(t *testing.T) {
	judge := func(s string) {
		want, code := slowParse(s)
		x, e := Parse(s)
		if x != want || e != code {
			t.Fatalf("Parse(%q): %v, %v, want %v, %v", s, x, e, want, code)
		}
		if again, e := Print(x); code == api.OK && (again != s || e != api.OK) {
			t.Fatalf("Print(%v): %q, %v, want %q", x, again, e, s)
		}
	}
	for i := range 31 * 31 * 31 {
		s := string([]byte{order[i%31], order[i/31%31], order[i/31/31]})
		judge(s)
		judge(s[:2])
		judge(s[:1])
	}
	r := rand.New(rand.NewSource(232))
	for range 20000 {
		s := string(order[r.Intn(10)])
		for range r.Intn(15) {
			s += string(order[r.Intn(31)])
		}
		judge(s)
		judge(text(t, s))
		judge(s + string(byte(r.Intn(256))))
	}
}

// P23.3: of no token's text with a slip a token is read.
func TestSlips(t *testing.T) {
	for _, x := range tokens() {
		s, _ := Print(x)
		for i := range len(s) {
			for b := range 256 {
				if byte(b) == s[i] {
					continue
				}
				want := api.ErrByte
				if strings.IndexByte(order, byte(b)) >= 0 {
					want = api.ErrSum
				}
				refused(t, s[:i]+string([]byte{byte(b)})+s[i+1:], want)
			}
			if i > 0 && s[i-1] != s[i] {
				refused(t, s[:i-1]+s[i:i+1]+s[i-1:i]+s[i+1:], api.ErrSum)
			}
		}
	}
}

// P23.4: of any tokens, such too as can't be written.
func TestLater(t *testing.T) {
	for _, c := range []struct {
		list []Token
		want int
	}{
		{[]Token{{}}, 0}, {[]Token{{3, 5}}, 0}, {[]Token{{-3, -5}}, 0}, {[]Token{{9, math.MinInt64}}, 0},
		{[]Token{{3, 5}, {3, 6}}, 1}, {[]Token{{3, 6}, {3, 5}}, 0}, {[]Token{{3, 5}, {7, 6}}, 1}, {[]Token{{0, 5}, {7, 6}}, 1}, {[]Token{{7, 6}, {0, 5}}, 0},
		{[]Token{{3, 5}, {2, 5}}, 1}, {[]Token{{2, 5}, {3, 5}}, 0}, {[]Token{{2, 5}, {2, 5}}, 0}, {[]Token{{1, 2}, {0, 2}, {5, 1}}, 1},
		{[]Token{{4, 1}, {3, 2}, {2, 3}, {1, 3}, {0, 2}, {5, 3}, {0, 0}}, 3},
		{[]Token{{0, -1}, {0, -2}}, 0}, {[]Token{{0, -2}, {0, -1}}, 1}, {[]Token{{0, math.MaxInt64}, {-1, math.MaxInt64}, {math.MinInt, math.MaxInt64}, {math.MinInt, math.MinInt64}}, 2},
		{[]Token{{0, 0}, {-1, 0}}, 1}, {[]Token{{-1, -1}, {math.MaxInt, 0}}, 1}, {[]Token{{math.MaxInt, math.MinInt64}, {8, api.MaxRev + 1}}, 1},
	} {
		if x := Later(c.list[0], c.list[1:]...); x != c.list[c.want] {
			t.Errorf("Later of %v: %v", c.list, x)
		}
	}
}

// P23.4 and P2: whichever comes first, and what is handed in stays.
func TestLaterOfMany(t *testing.T) {
	r := rand.New(rand.NewSource(234))
	for range 2000 {
		list := make([]Token, 1+r.Intn(8))
		for i := range list {
			list[i] = Token{Node: r.Intn(5) - 1, Rev: r.Int63n(4) - 1}
		}
		kept := slices.Clone(list)
		x := Later(list[0], list[1:]...)
		if !slices.Contains(list, x) || !reflect.DeepEqual(list, kept) {
			t.Fatalf("Later of %v: %v, behind it %v", kept, x, list)
		}
		for _, y := range list {
			if y.Rev > x.Rev || y.Rev == x.Rev && y.Node < x.Node {
				t.Fatalf("Later of %v: %v", list, x)
			}
		}
	}
}

// P1, and what holds of any texts and tokens.
func FuzzNothingPanics(f *testing.F) {
	for _, s := range []string{"", "0", "00", "000", "210x", "i", "\xff\x00", strings.Repeat("x", 16), strings.Repeat("0", 17), "é"} {
		f.Add(s, 2, int64(31))
	}
	f.Add("7c", math.MinInt, int64(math.MinInt64))
	f.Add("1f", math.MaxInt, int64(math.MaxInt64))
	f.Fuzz(func(t *testing.T, s string, node int, rev int64) {
		want, code := slowParse(s)
		if x, e := Parse(s); x != want || e != code {
			t.Errorf("Parse(%q): %v, %v, want %v, %v", s, x, e, want, code)
		}
		x := Token{Node: node, Rev: rev}
		told, e := Print(x)
		if again, back := Parse(told); e == api.OK && (again != x || back != api.OK) || e != api.OK && told != "" {
			t.Errorf("Print(%v): %q, %v, which is read as %v, %v", x, told, e, again, back)
		}
		if y := Later(x, want); y != x && y != want || Later(want, x) != y {
			t.Errorf("Later of %v and %v: %v", x, want, y)
		}
	})
}
