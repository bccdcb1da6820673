package press_test

import (
	"bytes"
	"encoding/hex"
	"strings"
	"testing"

	"press/api"
	"press/press"
)

func TestP3SumOfExamples(t *testing.T) {
	for _, c := range []struct {
		data string
		want int
	}{{"", 0}, {"\x01", 257}, {"\x01\x02", 1027}, {"\x02\x01", 3 + 256*5}, {"\xff", 0}, {"\x00", 0}, {"ab", 9667}, {"aaaa", 133 + 256*205}} {
		if got := press.Sum([]byte(c.data)); got != c.want {
			t.Errorf("Sum(%q) = %d, want %d", c.data, got, c.want)
		}
	}
	if got := press.Sum(nil); got != 0 {
		t.Errorf("Sum(nil) = %d", got)
	}
}

func TestP3SumOfManyBytes(t *testing.T) {
	d := &dice{1}
	for n := 0; n < 3000; n += 7 {
		data := make([]byte, n)
		for i := range data {
			data[i] = byte(d.below(256))
		}
		if got := press.Sum(data); got != modelSum(string(data)) {
			t.Errorf("Sum of %d bytes = %d, want %d", n, got, modelSum(string(data)))
		}
	}
}

// checkTokens holds Expand and Cost of tokens against the model.
func checkTokens(t *testing.T, ts []api.Token) {
	t.Helper()
	want, right := modelMade(ts)
	e, cost := api.OK, 0
	if right {
		cost = len(modelBits(ts))
	} else {
		e = api.ErrTokens
	}
	made, gotE := press.Expand(ts)
	if string(made) != want || gotE != e {
		t.Errorf("Expand(%v) = %q, %d, want %q, %d", ts, made, gotE, want, e)
	}
	gotCost, gotE := press.Cost(ts)
	if gotCost != cost || gotE != e {
		t.Errorf("Cost(%v) = %d, %d, want %d, %d", ts, gotCost, gotE, cost, e)
	}
}

func TestP4Examples(t *testing.T) {
	for _, c := range []struct {
		ts   []api.Token
		made string
		cost int
	}{
		{nil, "", 0},
		{[]api.Token{}, "", 0},
		{literals("a", copyOf(3, 1)), "aaaa", 9 + 5},
		{literals("ab", copyOf(3, 2)), "ababa", 18 + 7},
		{literals("a", copyOf(2, 1)), "aaa", 9 + 3},
		{literals("a", copyOf(63, 1)), strings.Repeat("a", 64), 9 + 13},
	} {
		made, e := press.Expand(c.ts)
		if string(made) != c.made || e != api.OK {
			t.Errorf("Expand(%v) = %q, %d, want %q", c.ts, made, e, c.made)
		}
		cost, e := press.Cost(c.ts)
		if cost != c.cost || e != api.OK {
			t.Errorf("Cost(%v) = %d, %d, want %d", c.ts, cost, e, c.cost)
		}
	}
	for _, ts := range [][]api.Token{{copyOf(2, 1)}, {{Len: 2, Byte: 'a'}}, literals("a", copyOf(64, 1))} {
		made, e := press.Expand(ts)
		cost, f := press.Cost(ts)
		if len(made) != 0 || e != api.ErrTokens || cost != 0 || f != api.ErrTokens {
			t.Errorf("of %v: %q, %d; %d, %d", ts, made, e, cost, f)
		}
	}
}

func TestP4EachTokenBehindSomeBytes(t *testing.T) {
	numbers := []int{least, least + 1, -1 << 32, -256, -2, -1, 128, 255, 256, 1 << 32, 1<<32 + 2, most - 64, most - 1, most}
	lens := append([]int{}, numbers...)
	for n := 0; n <= 66; n++ {
		lens = append(lens, n)
	}
	dists := append([]int{}, numbers...)
	for n := 0; n <= 65; n++ {
		dists = append(dists, n)
	}
	for _, ahead := range []int{0, 1, 2, 31, 32, 33, 61, 62, 63, 64} {
		ts := literals(letters(ahead), api.Token{})
		for _, length := range lens {
			for _, dist := range dists {
				for _, b := range []int{least, -1, 0, 1, 255, 256, most} {
					ts[ahead] = api.Token{Len: length, Dist: dist, Byte: b}
					checkTokens(t, ts)
				}
			}
		}
	}
}

func TestP4EachByte(t *testing.T) {
	for b := -300; b <= 600; b++ {
		checkTokens(t, []api.Token{literal(b)})
		checkTokens(t, []api.Token{literal(1), {Len: 2, Dist: 1, Byte: b}})
	}
}

func TestP4ManyTokens(t *testing.T) {
	d := &dice{2}
	for i := 0; i < 4000; i++ {
		ts := d.tokens(d.below(65))
		checkTokens(t, ts)
		if len(ts) == 0 {
			continue
		}
		// One wrong token is found wherever it stands.
		at := d.below(len(ts))
		for _, wrong := range []api.Token{{}, {Len: 2}, {Len: 1, Dist: 1}, {Len: 2, Dist: 33}, {Len: 1, Byte: 256}, {Len: most, Dist: 1}} {
			broken := append([]api.Token{}, ts...)
			broken[at] = wrong
			checkTokens(t, broken)
		}
		checkTokens(t, append(ts, literal(0)))
		checkTokens(t, append(ts, copyOf(2, 1)))
	}
}

func TestP4WrongBehindWhatIsFull(t *testing.T) {
	full := literals("a", copyOf(63, 1))
	for _, more := range []api.Token{{}, literal('a'), copyOf(2, 1), copyOf(0, 1), copyOf(-2, 1), copyOf(most, 1), {Len: 0, Byte: 'a'}, {Len: -1}} {
		checkTokens(t, append(append([]api.Token{}, full...), more))
	}
}

func checkPack(t *testing.T, pieces [][]api.Token, want []byte, wantE api.Errno) {
	t.Helper()
	s, e := press.Pack(pieces)
	if !bytes.Equal(s, want) || e != wantE {
		t.Errorf("Pack(%v) = % x, %d, want % x, %d", pieces, s, e, want, wantE)
	}
}

func TestP5Examples(t *testing.T) {
	for _, c := range []struct {
		pieces [][]api.Token
		want   string
	}{
		{nil, "505a3180"},
		{[][]api.Token{}, "505a3180"},
		{[][]api.Token{literals("a")}, "505a314610616180"},
		{[][]api.Token{literals("a", copyOf(3, 1))}, "505a312986a085cd80"},
	} {
		want, err := hex.DecodeString(c.want)
		if err != nil {
			t.Fatal(err)
		}
		checkPack(t, c.pieces, want, api.OK)
	}
}

func TestP5EachLengthOfTheLastPiece(t *testing.T) {
	full := literals(letters(64))
	for n := 1; n <= 64; n++ {
		last := literals(letters(n))
		one := [][]api.Token{last}
		checkPack(t, one, modelStream(one), api.OK)
		two := [][]api.Token{full, last}
		checkPack(t, two, modelStream(two), api.OK)
		if n < 64 {
			checkPack(t, [][]api.Token{last, full}, nil, api.ErrTokens)
			checkPack(t, [][]api.Token{last, last}, nil, api.ErrTokens)
			checkPack(t, [][]api.Token{full, last, full}, nil, api.ErrTokens)
		}
	}
}

func TestP5ManyStreams(t *testing.T) {
	d := &dice{3}
	for i := 0; i < 1000; i++ {
		var pieces [][]api.Token
		for n := d.below(5); n > 0; n-- {
			pieces = append(pieces, d.tokens(64))
		}
		pieces = append(pieces, d.tokens(1+d.below(64)))
		checkPack(t, pieces, modelStream(pieces), api.OK)
	}
}

func TestP5HowManyPieces(t *testing.T) {
	full := literals("a", copyOf(63, 1))
	var pieces [][]api.Token
	for len(pieces) < 600 {
		pieces = append(pieces, full)
	}
	checkPack(t, pieces, modelStream(pieces), api.OK)
	checkPack(t, append(pieces, full), nil, api.ErrLong)
	checkPack(t, append(pieces, literals("x")), nil, api.ErrLong)
	pieces[599] = literals("x")
	checkPack(t, pieces, modelStream(pieces), api.OK)
}

func TestP5ErrLongGoesAhead(t *testing.T) {
	checkPack(t, make([][]api.Token, 600), nil, api.ErrTokens)
	checkPack(t, make([][]api.Token, 601), nil, api.ErrLong)
	checkPack(t, make([][]api.Token, 1<<20), nil, api.ErrLong)
}

func TestP5WrongPieces(t *testing.T) {
	full := literals("a", copyOf(63, 1))
	wrong := [][]api.Token{
		nil,
		{},
		{{}},
		{copyOf(2, 1)},
		{literal(256)},
		{literal(-1)},
		literals("a", copyOf(64, 1)),
		literals("a", copyOf(2, 2)),
		literals("a", copyOf(63, 1), literal('b')),
		literals(letters(33), copyOf(2, 33)),
		literals("a", api.Token{Len: 63, Dist: 1, Byte: 1}),
		literals("a", copyOf(most, 1)),
	}
	for _, ts := range wrong {
		checkPack(t, [][]api.Token{ts}, nil, api.ErrTokens)
		checkPack(t, [][]api.Token{ts, full}, nil, api.ErrTokens)
		checkPack(t, [][]api.Token{full, ts}, nil, api.ErrTokens)
		checkPack(t, [][]api.Token{full, ts, full}, nil, api.ErrTokens)
		checkPack(t, [][]api.Token{literals("a"), ts}, nil, api.ErrTokens)
	}
}
