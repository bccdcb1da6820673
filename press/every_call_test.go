package press_test

import (
	"bytes"
	"reflect"
	"testing"

	"press/api"
	"press/press"
)

// odd gives tokens of the numbers that are likeliest to go wrong, right ones among them.
func odd() []api.Token {
	numbers := []int{least, least + 1, -65, -1, 0, 1, 2, 31, 32, 33, 63, 64, 65, 255, 256, most - 1, most}
	var ts []api.Token
	for _, length := range numbers {
		for _, dist := range numbers {
			for _, b := range numbers {
				ts = append(ts, api.Token{Len: length, Dist: dist, Byte: b})
			}
		}
	}
	return ts
}

// callOnTokens asks every call that takes tokens, and tells of a result beside an error.
func callOnTokens(t *testing.T, ts []api.Token) {
	t.Helper()
	if made, e := press.Expand(ts); e != api.OK && len(made) != 0 {
		t.Errorf("Expand of %d tokens: %q beside the error %d", len(ts), made, e)
	}
	if cost, e := press.Cost(ts); e != api.OK && cost != 0 {
		t.Errorf("Cost of %d tokens: %d beside the error %d", len(ts), cost, e)
	}
	full := literals(letters(64))
	for _, pieces := range [][][]api.Token{{ts}, {ts, ts}, {full, ts}, {full, full, ts}} {
		if s, e := press.Pack(pieces); e != api.OK && len(s) != 0 {
			t.Errorf("Pack of %d pieces: % x beside the error %d", len(pieces), s, e)
		}
	}
}

func TestP1OddTokens(t *testing.T) {
	for _, odd := range odd() {
		callOnTokens(t, []api.Token{odd})
		callOnTokens(t, []api.Token{odd, odd})
		callOnTokens(t, literals("a", odd))
		callOnTokens(t, literals("a", copyOf(2, 1), odd, odd))
		callOnTokens(t, literals(letters(63), odd))
		callOnTokens(t, literals(letters(64), odd))
	}
}

func TestP1LongLists(t *testing.T) {
	const long = 1 << 20
	callOnTokens(t, make([]api.Token, long))
	ones := make([]api.Token, long)
	copies := make([]api.Token, long)
	pieces := make([][]api.Token, long)
	for i := range ones {
		ones[i] = literal('a')
		copies[i] = copyOf(2, 1)
		pieces[i] = ones
	}
	copies[0] = literal('a')
	callOnTokens(t, ones)
	callOnTokens(t, copies)
	if s, e := press.Pack(pieces); len(s) != 0 || e != api.ErrLong {
		t.Errorf("Pack of %d pieces: %d bytes, %d", long, len(s), e)
	}
	if s, e := press.Pack(pieces[:api.MaxPieces]); len(s) != 0 || e != api.ErrTokens {
		t.Errorf("Pack of long pieces: %d bytes, %d", len(s), e)
	}
	if n := press.Sum(bytes.Repeat([]byte{255}, 1<<24)); n != 0 {
		t.Errorf("Sum of 255 times 2 to the power of 24: %d", n)
	}
}

func TestP1Nil(t *testing.T) {
	callOnTokens(t, nil)
	made, e := press.Expand(nil)
	cost, f := press.Cost(nil)
	s, g := press.Pack(nil)
	if len(made) != 0 || e != api.OK || cost != 0 || f != api.OK || string(s) != "PZ1\x80" || g != api.OK || press.Sum(nil) != 0 {
		t.Errorf("of nil: %q, %d; %d, %d; % x, %d; %d", made, e, cost, f, s, g, press.Sum(nil))
	}
}

// withRoom gives the tokens with spare room behind them, and all of the memory.
func withRoom(ts []api.Token) ([]api.Token, []api.Token) {
	all := append([]api.Token{}, ts...)
	for i := 0; i < 100; i++ {
		all = append(all, api.Token{Len: -7, Dist: -8, Byte: -9})
	}
	return all[:len(ts)], all
}

func TestP2NothingHandedInIsWritten(t *testing.T) {
	d := &dice{4}
	for i := 0; i < 500; i++ {
		plain := d.tokens(1 + d.below(64))
		if i%5 == 0 {
			plain = append(plain, api.Token{})
		}
		ts, all := withRoom(plain)
		kept := append([]api.Token{}, all...)
		room := [][]api.Token{ts, all, all, nil}
		keptRoom := append([][]api.Token{}, room...)
		press.Expand(ts)
		press.Cost(ts)
		press.Pack(room[:1])
		press.Pack(room[:2])
		if !reflect.DeepEqual(all, kept) || !reflect.DeepEqual(room, keptRoom) {
			t.Fatalf("the tokens %v were changed", plain)
		}
		data := []byte(letters(100))
		press.Sum(data[:d.below(100)])
		if string(data) != letters(100) {
			t.Fatalf("Sum changed its data")
		}
	}
}

// scribble writes into a list and into its spare room.
func scribble(s []byte) {
	s = s[:cap(s)]
	for i := range s {
		s[i] = 0xee
	}
}

func TestP2ListsAreFresh(t *testing.T) {
	d := &dice{5}
	for i := 0; i < 300; i++ {
		ts := d.tokens(1 + d.below(64))
		pieces := [][]api.Token{d.tokens(64), ts}
		want, _ := modelMade(ts)
		stream := modelStream(pieces)
		made, _ := press.Expand(ts)
		other, _ := press.Expand(ts)
		s, _ := press.Pack(pieces)
		otherS, _ := press.Pack(pieces)
		scribble(made)
		scribble(s)
		again, _ := press.Expand(ts)
		againS, _ := press.Pack(pieces)
		if string(other) != want || string(again) != want || !bytes.Equal(otherS, stream) || !bytes.Equal(againS, stream) {
			t.Fatalf("of %v: %q, %q, want %q; % x, % x, want % x", ts, other, again, want, otherS, againS, stream)
		}
	}
	empty, _ := press.Expand(nil)
	scribble(empty)
	none, _ := press.Pack(nil)
	scribble(none)
	if s, _ := press.Pack(nil); string(s) != "PZ1\x80" {
		t.Errorf("Pack(nil) = % x", s)
	}
}

func TestP2NothingIsKept(t *testing.T) {
	ts := literals("ab", copyOf(3, 2))
	pieces := [][]api.Token{ts}
	made, _ := press.Expand(ts)
	s, _ := press.Pack(pieces)
	want := append([]byte{}, s...)
	ts[0] = literal('z')
	if string(made) != "ababa" || !bytes.Equal(s, want) {
		t.Errorf("an answer changed with what was handed in: %q, % x", made, s)
	}
	if made, _ := press.Expand(ts); string(made) != "zbzbz" {
		t.Errorf("Expand of changed tokens = %q", made)
	}
	if s, _ := press.Pack(pieces); !bytes.Equal(s, modelStream(pieces)) {
		t.Errorf("Pack of changed tokens = % x", s)
	}
}
