package press_test

import (
	"bytes"
	"encoding/hex"
	"fmt"
	"math/big"
	"reflect"
	"strings"
	"testing"

	"press/api"
	"press/press"
)

// checkParse holds Parse against the least cost.
func checkParse(t *testing.T, piece string, cost int) {
	t.Helper()
	ts, e := press.Parse([]byte(piece))
	made, right := modelMade(ts)
	if e != api.OK || !right || made != piece || len(modelBits(ts)) != cost {
		t.Errorf("Parse(%q) = %v, %d: makes %q of cost %d, want %d", piece, ts, e, made, len(modelBits(ts)), cost)
	}
}

func checkWays(t *testing.T, piece string, cost, ways int) {
	t.Helper()
	gotCost, gotWays, e := press.Ways([]byte(piece))
	if gotCost != cost || gotWays != ways || e != api.OK {
		t.Errorf("Ways(%q) = %d, %d, %d, want %d, %d", piece, gotCost, gotWays, e, cost, ways)
	}
}

func checkNth(t *testing.T, piece string, k int, want []api.Token, e api.Errno) {
	t.Helper()
	ts, gotE := press.Nth([]byte(piece), k)
	if fmt.Sprint(ts) != fmt.Sprint(want) || gotE != e {
		t.Errorf("Nth(%q, %d) = %v, %d, want %v, %d", piece, k, ts, gotE, want, e)
	}
}

// checkNoSuchK asks for numbers that are none of those below ways.
func checkNoSuchK(t *testing.T, piece string, ways int) {
	t.Helper()
	for _, k := range []int{least, -ways, -1, ways, ways + 1, 2 * ways, most} {
		checkNth(t, piece, k, nil, api.ErrArg)
	}
}

// everyPiece gives all pieces of up to n bytes of these kinds.
func everyPiece(kinds string, n int) []string {
	all := []string{""}
	from := 0
	for ; n > 0; n-- {
		to := len(all)
		for _, s := range all[from:to] {
			for _, kind := range kinds {
				all = append(all, s+string(kind))
			}
		}
		from = to
	}
	return all
}

func TestP7P8EveryShortPiece(t *testing.T) {
	pieces := everyPiece("ab", 10)
	pieces = append(pieces, everyPiece("abc", 7)...)
	pieces = append(pieces, everyPiece("abcd", 5)...)
	for _, piece := range pieces {
		cost, best := modelBest(piece)
		checkParse(t, piece, cost)
		checkWays(t, piece, cost, len(best))
		for k, ts := range best {
			checkNth(t, piece, k, ts, api.OK)
		}
		checkNoSuchK(t, piece, len(best))
	}
}

func TestP7Examples(t *testing.T) {
	for _, c := range []struct {
		piece string
		want  []api.Token
	}{
		{"", nil}, {"a", literals("a")}, {"ab", literals("ab")}, {"aa", literals("aa")}, {"aaaa", literals("a", copyOf(3, 1))}, {"aaaaa", literals("a", copyOf(4, 1))},
		{strings.Repeat("a", 64), literals("a", copyOf(63, 1))}, {strings.Repeat("ab", 32), literals("ab", copyOf(62, 2))},
	} {
		ts, e := press.Parse([]byte(c.piece))
		if fmt.Sprint(ts) != fmt.Sprint(c.want) || e != api.OK {
			t.Errorf("Parse(%q) = %v, %d, want %v", c.piece, ts, e, c.want)
		}
	}
}

func TestP7EachByte(t *testing.T) {
	for b := 0; b < 256; b++ {
		want := []api.Token{literal(b), literal(255 - b)}
		ts, e := press.Parse([]byte{byte(b), byte(255 - b)})
		if !reflect.DeepEqual(ts, want) || e != api.OK {
			t.Errorf("Parse of %d and %d = %v, %d", b, 255-b, ts, e)
		}
	}
}

// different gives n bytes of which no two are the same.
func different(n int) string {
	var s []byte
	for len(s) < n {
		s = append(s, byte(200+len(s)))
	}
	return string(s)
}

// TestP7EachCopy has bytes that come again, at each distance, be it too far for a copy or not, and of each length; with none and with some others ahead of them.
func TestP7EachCopy(t *testing.T) {
	for dist := 1; dist <= 62; dist++ {
		for length := 2; dist+length <= 64; length++ {
			checkCopy(t, "", length, dist)
			if dist+length < 64 {
				checkCopy(t, "!", length, dist)
				checkCopy(t, different(64)[dist:64-length], length, dist)
			}
		}
	}
}

// checkCopy holds all calls against a piece in which just so many bytes behind the others come again from so far.
func checkCopy(t *testing.T, ahead string, length, dist int) {
	t.Helper()
	again := strings.Repeat(different(dist), 64)[:dist+length]
	want := literals(ahead + again)
	if dist <= 32 {
		want = literals(ahead+again[:dist], copyOf(length, dist))
	}
	checkParse(t, ahead+again, len(modelBits(want)))
	checkWays(t, ahead+again, len(modelBits(want)), 1)
	checkNth(t, ahead+again, 0, want, api.OK)
}

func TestP7P8DrawnPieces(t *testing.T) {
	d := &dice{12}
	for i := 0; i < 900; i++ {
		piece := d.piece(i % 65)
		m := newModelCounts(piece)
		ways := m.counted()
		checkParse(t, piece, m.cost[0])
		checkWays(t, piece, m.cost[0], ways)
		checkPlaces(t, m, 0, ways-1, ways/2, ways/3, d.below(ways), d.below(ways))
		checkNoSuchK(t, piece, ways)
	}
}

// checkPlaces asks for best lists by number, and holds each against how many go ahead of it.
func checkPlaces(t *testing.T, m *modelCounts, ks ...int) {
	t.Helper()
	for _, k := range ks {
		ts, e := press.Nth([]byte(m.piece), k)
		ahead := m.ahead(ts)
		if e != api.OK || ahead.Cmp(big.NewInt(int64(k))) != 0 {
			t.Errorf("Nth(%q, %d) = %v, %d: ahead of it %d", m.piece, k, ts, e, ahead)
		}
	}
}

func TestP8Examples(t *testing.T) {
	checkWays(t, "", 0, 1)
	checkWays(t, "ab", 18, 1)
	checkWays(t, "aaaaa", 14, 1)
	checkWays(t, "abxbcyabc", 70, 2)
	checkNth(t, "abxbcyabc", 0, literals("abxbcya", copyOf(2, 4)), api.OK)
	checkNth(t, "abxbcyabc", 1, append(literals("abxbcy", copyOf(2, 6)), literal('c')), api.OK)
	checkNth(t, "abxbcyabc", 2, nil, api.ErrArg)
	checkNth(t, "", 0, nil, api.OK)
	checkNoSuchK(t, "", 1)
}

// TestP8Order has two best lists each time, which differ first by a literal, by Dist, by Len.
func TestP8Order(t *testing.T) {
	for _, c := range []struct {
		piece         string
		cost          int
		first, second []api.Token
	}{
		{"abbaba", 41, literals("abba", copyOf(2, 2)), append(literals("abb", copyOf(2, 3)), literal('a'))},
		{"aaabbaa", 37, append(literals("a", copyOf(2, 1)), literals("bb", copyOf(2, 4))...), append(literals("a", copyOf(2, 1)), literals("bb", copyOf(2, 5))...)},
		{"abaaaaba", 39, literals("aba", copyOf(2, 1), copyOf(3, 5)), literals("aba", copyOf(3, 1), copyOf(2, 5))},
	} {
		checkWays(t, c.piece, c.cost, 2)
		checkNth(t, c.piece, 0, c.first, api.OK)
		checkNth(t, c.piece, 1, c.second, api.OK)
		checkNoSuchK(t, c.piece, 2)
	}
}

// manyWays: pieces with nearly MaxWays best lists, and with more.
var manyWays = []struct {
	piece string
	ways  int64
}{
	{"aaeaaeaaaeeeeeacaeacaeefaaaccaaaceadaedeedaecaffffaaffdceddadffe", 951782400},
	{"bcabcdbdbdbdbcbaaaaadbaababbdabbcccccdbccaaccbaaddddabddaacdccdd", 987033600},
	{"bcdbccbdbdbdbcaaaaaadbaababbdabbcccccdbcdaaccbaaddddabddaacdccdd", 1006387200},
	{"bbbcdbbdbdcccbbeeeecccccdbcceebbabdbababdbdbeebaaaccaacaabbddbba", 1010880000},
	{"dcabdcabbddddcaaaaaddaaabbbbdcbbcadcbddbbaacbbbbbababddccccabbcc", 1253491200},
	{"aacbddbdbaaaaaacdddddaadddbbbbbacbbcbcaacaacbddccaaaabbaabcdaccb", 2846638080},
	{"fffececeeeeceecbbbfceaeefefefecffffceffeeabbbbffbbabefcfebbceaff", 3448811520},
	{"bgbccbgbgbfbgggggbeggccccbaggggcgbbgbebebfbebggaggcbeccgbggebbeb", 3881779200},
}

func TestP8MaxWays(t *testing.T) {
	d := &dice{13}
	for _, c := range manyWays {
		m := newModelCounts(c.piece)
		if m.ways[0].Cmp(big.NewInt(c.ways)) != 0 {
			t.Fatalf("the model counts %d of %q", m.ways[0], c.piece)
		}
		ways := int(min(c.ways, 1000000000))
		checkWays(t, c.piece, m.cost[0], ways)
		checkPlaces(t, m, 0, 1, 2, ways/2, ways-2, ways-1)
		for i := 0; i < 200; i++ {
			checkPlaces(t, m, d.below(ways))
		}
		checkNoSuchK(t, c.piece, ways)
		if c.ways > 1000000000 {
			checkNth(t, c.piece, int(c.ways)-1, nil, api.ErrArg)
		}
	}
}

// TestP7P8TooLong: that the piece is too long is told ahead of what k is.
func TestP7P8TooLong(t *testing.T) {
	for _, n := range []int{65, 66, 127, 128, 2048, 2049, 1 << 24} {
		piece := bytes.Repeat([]byte("ab"), n)[:n]
		ts, e := press.Parse(piece)
		cost, ways, f := press.Ways(piece)
		if len(ts) != 0 || e != api.ErrLong || cost != 0 || ways != 0 || f != api.ErrLong {
			t.Errorf("of %d bytes: Parse %v, %d; Ways %d, %d, %d", n, ts, e, cost, ways, f)
		}
		for _, k := range []int{least, -1, 0, 1, 1000000000, most} {
			if ts, e := press.Nth(piece, k); len(ts) != 0 || e != api.ErrLong {
				t.Errorf("Nth of %d bytes, %d = %v, %d", n, k, ts, e)
			}
		}
	}
	checkParse(t, different(64), 64*9)
	checkWays(t, different(64), 64*9, 1)
	checkNth(t, different(64), 0, literals(different(64)), api.OK)
}

func TestP9Examples(t *testing.T) {
	for _, c := range []struct{ data, want string }{
		{"", "505a3180"}, {"a", "505a314610616180"}, {"aaaa", "505a312986a085cd80"},
		{strings.Repeat("a", 64), "505a310209860fa0583780"}, {strings.Repeat("a", 64) + "b", "505a310209860fa058374620626280"},
	} {
		s, e := press.Compress([]byte(c.data))
		if hex.EncodeToString(s) != c.want || e != api.OK {
			t.Errorf("Compress(%q) = %x, %d, want %s", c.data, s, e, c.want)
		}
	}
}

// checkCompress holds Compress against the model's stream of what Parse tells of each piece, and reads it again.
func checkCompress(t *testing.T, data string) {
	t.Helper()
	var pieces [][]api.Token
	for rest := data; rest != ""; rest = rest[min(64, len(rest)):] {
		ts, _ := press.Parse([]byte(rest[:min(64, len(rest))]))
		pieces = append(pieces, ts)
	}
	want := modelStream(pieces)
	s, e := press.Compress([]byte(data))
	if !bytes.Equal(s, want) || e != api.OK {
		t.Errorf("Compress(%q) = % x, %d, want % x", data, s, e, want)
	}
	_, back, e := modelRead(s)
	if back != data || e != api.OK {
		t.Errorf("Compress(%q) is read as %q, %d", data, back, e)
	}
	again, e := press.Decompress(s)
	if string(again) != data || e != api.OK {
		t.Errorf("Decompress of Compress(%q) = %q, %d", data, again, e)
	}
}

func TestP9EachLength(t *testing.T) {
	d := &dice{14}
	for n := 0; n <= 200; n++ {
		checkCompress(t, d.data(n))
		checkCompress(t, letters(n))
	}
	for _, n := range []int{255, 256, 257, 1984, 1985, 2047, 2048} {
		checkCompress(t, d.data(n))
		checkCompress(t, letters(n))
		checkCompress(t, strings.Repeat("a", n))
	}
}

// data gives n bytes, of which each piece is of another sort.
func (d *dice) data(n int) string {
	s := ""
	for ; n > 64; n -= 64 {
		s += d.piece(64)
	}
	return s + d.piece(n)
}

func TestP9NoneIsShorter(t *testing.T) {
	for _, data := range everyPiece("ab", 9) {
		s, _ := press.Compress([]byte(data))
		for _, ts := range modelAll(data, 0) {
			if other := modelStream([][]api.Token{ts}); data != "" && len(other) < len(s) {
				t.Fatalf("Compress(%q) = % x, but % x is shorter", data, s, other)
			}
		}
	}
	d := &dice{15}
	for i := 0; i < 200; i++ {
		pieces := d.pieces()
		other := modelStream(pieces)
		_, data, _ := modelRead(other)
		if s, e := press.Compress([]byte(data)); e != api.OK || len(s) > len(other) {
			t.Fatalf("Compress(%q) = % x, %d, but % x is shorter", data, s, e, other)
		}
	}
}

func TestP9TooLong(t *testing.T) {
	for _, n := range []int{2049, 2050, 2112, 4096, 1 << 24} {
		if s, e := press.Compress(make([]byte, n)); len(s) != 0 || e != api.ErrLong {
			t.Errorf("Compress of %d bytes = %d bytes, %d", n, len(s), e)
		}
	}
}
