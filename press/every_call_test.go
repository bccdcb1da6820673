package press_test

import (
	"bytes"
	"fmt"
	"reflect"
	"testing"

	"press/api"
	"press/press"
)

// odd gives tokens of the numbers that are likeliest to go wrong, right ones among them.
func odd() []api.Token {
	numbers := []int{least, least + 1, -65, -1, 0, 1, 2, 31, 32, 33, 63, 64, 65, 255, 256, most - 1, most}
	var ts []api.Token
	for _, length := range numbers {
		for _, dist := range numbers {
			for _, b := range numbers {
				ts = append(ts, api.Token{Len: length, Dist: dist, Byte: b})
			}
		}
	}
	return ts
}

// callOnTokens asks every call that takes tokens, and tells of a result beside an error.
func callOnTokens(t *testing.T, ts []api.Token) {
	t.Helper()
	if made, e := press.Expand(ts); e != api.OK && len(made) != 0 {
		t.Errorf("Expand of %d tokens: %q beside the error %d", len(ts), made, e)
	}
	if cost, e := press.Cost(ts); e != api.OK && cost != 0 {
		t.Errorf("Cost of %d tokens: %d beside the error %d", len(ts), cost, e)
	}
	full := literals(letters(64))
	for _, pieces := range [][][]api.Token{{ts}, {ts, ts}, {full, ts}, {full, full, ts}} {
		if s, e := press.Pack(pieces); e != api.OK && len(s) != 0 {
			t.Errorf("Pack of %d pieces: % x beside the error %d", len(pieces), s, e)
		}
	}
}

func TestP1OddTokens(t *testing.T) {
	for _, odd := range odd() {
		callOnTokens(t, []api.Token{odd})
		callOnTokens(t, []api.Token{odd, odd})
		callOnTokens(t, literals("a", odd))
		callOnTokens(t, literals("a", copyOf(2, 1), odd, odd))
		callOnTokens(t, literals(letters(63), odd))
		callOnTokens(t, literals(letters(64), odd))
	}
}

func TestP1LongLists(t *testing.T) {
	const long = 1 << 20
	callOnTokens(t, make([]api.Token, long))
	ones := make([]api.Token, long)
	copies := make([]api.Token, long)
	pieces := make([][]api.Token, long)
	for i := range ones {
		ones[i] = literal('a')
		copies[i] = copyOf(2, 1)
		pieces[i] = ones
	}
	copies[0] = literal('a')
	callOnTokens(t, ones)
	callOnTokens(t, copies)
	if s, e := press.Pack(pieces); len(s) != 0 || e != api.ErrLong {
		t.Errorf("Pack of %d pieces: %d bytes, %d", long, len(s), e)
	}
	if s, e := press.Pack(pieces[:api.MaxPieces]); len(s) != 0 || e != api.ErrTokens {
		t.Errorf("Pack of long pieces: %d bytes, %d", len(s), e)
	}
	if n := press.Sum(bytes.Repeat([]byte{255}, 1<<24)); n != 0 {
		t.Errorf("Sum of 255 times 2 to the power of 24: %d", n)
	}
}

func TestP1Nil(t *testing.T) {
	callOnTokens(t, nil)
	made, e := press.Expand(nil)
	cost, f := press.Cost(nil)
	s, g := press.Pack(nil)
	h, i := callOnStream(t, nil)
	if h != api.ErrShort || i != api.ErrShort {
		t.Errorf("Decompress and Unpack of nil: %d, %d", h, i)
	}
	if len(made) != 0 || e != api.OK || cost != 0 || f != api.OK || string(s) != "PZ1\x80" || g != api.OK || press.Sum(nil) != 0 {
		t.Errorf("of nil: %q, %d; %d, %d; % x, %d; %d", made, e, cost, f, s, g, press.Sum(nil))
	}
}

// callOnStream asks every call that reads a stream, and tells of a result beside an error.
func callOnStream(t *testing.T, s []byte) (api.Errno, api.Errno) {
	t.Helper()
	data, e := press.Decompress(s)
	pieces, f := press.Unpack(s)
	if e != api.OK && len(data) != 0 || f != api.OK && len(pieces) != 0 {
		t.Errorf("Decompress and Unpack of %d bytes: %q, %v beside the errors %d, %d", len(s), data, pieces, e, f)
	}
	return e, f
}

func TestP1OddStreams(t *testing.T) {
	d := &dice{9}
	for i := 0; i < 3000; i++ {
		s := modelStream(d.pieces())
		for turns := d.below(4); turns > 0; turns-- {
			s[d.below(len(s))] = byte(d.below(256))
		}
		s = s[:len(s)-d.below(3)]
		callOnStream(t, s)
		drawn := []byte("PZ1")
		for len(drawn) < i%100 {
			drawn = append(drawn, byte(d.below(256)&d.below(256)))
		}
		callOnStream(t, drawn)
	}
	for _, n := range []int{0, 1, 4095, 4096} {
		for _, b := range []byte{0, 1, 127, 128, 255} {
			callOnStream(t, bytes.Repeat([]byte{b}, n))
			callOnStream(t, append([]byte("PZ1"), bytes.Repeat([]byte{b}, max(n-3, 0))...))
		}
	}
}

func TestP1LongStreams(t *testing.T) {
	for _, n := range []int{4097, 1 << 16, 1 << 25} {
		e, f := callOnStream(t, make([]byte, n))
		if e != api.ErrLong || f != api.ErrLong {
			t.Errorf("of %d bytes: %d, %d", n, e, f)
		}
	}
}

// withRoom gives the tokens with spare room behind them, and all of the memory.
func withRoom(ts []api.Token) ([]api.Token, []api.Token) {
	all := append([]api.Token{}, ts...)
	for i := 0; i < 100; i++ {
		all = append(all, api.Token{Len: -7, Dist: -8, Byte: -9})
	}
	return all[:len(ts)], all
}

func TestP2NothingHandedInIsWritten(t *testing.T) {
	d := &dice{4}
	for i := 0; i < 500; i++ {
		plain := d.tokens(1 + d.below(64))
		if i%5 == 0 {
			plain = append(plain, api.Token{})
		}
		ts, all := withRoom(plain)
		kept := append([]api.Token{}, all...)
		room := [][]api.Token{ts, all, all, nil}
		keptRoom := append([][]api.Token{}, room...)
		press.Expand(ts)
		press.Cost(ts)
		press.Pack(room[:1])
		press.Pack(room[:2])
		if !reflect.DeepEqual(all, kept) || !reflect.DeepEqual(room, keptRoom) {
			t.Fatalf("the tokens %v were changed", plain)
		}
		data := []byte(letters(100))
		press.Sum(data[:d.below(100)])
		if string(data) != letters(100) {
			t.Fatalf("Sum changed its data")
		}
	}
}

func TestP2NoStreamIsWritten(t *testing.T) {
	d := &dice{10}
	for i := 0; i < 500; i++ {
		whole := modelStream(d.pieces())
		all := append(append([]byte{}, whole...), letters(100)...)
		kept := string(all)
		n := len(whole)
		if i%2 == 0 {
			n = d.below(n)
		}
		// What stands behind is the rest of a stream, and is not read.
		e, f := callOnStream(t, all[:n])
		if n < len(whole) && (e != api.ErrShort || f != api.ErrShort) || n == len(whole) && (e != api.OK || f != api.OK) {
			t.Fatalf("of %d bytes of % x: %d, %d", n, whole, e, f)
		}
		if string(all) != kept {
			t.Fatalf("the stream % x was changed", whole)
		}
	}
}

// scribble writes into a list and into its spare room.
func scribble(s []byte) {
	s = s[:cap(s)]
	for i := range s {
		s[i] = 0xee
	}
}

func TestP2ListsAreFresh(t *testing.T) {
	d := &dice{5}
	for i := 0; i < 300; i++ {
		ts := d.tokens(1 + d.below(64))
		pieces := [][]api.Token{d.tokens(64), ts}
		want, _ := modelMade(ts)
		stream := modelStream(pieces)
		made, _ := press.Expand(ts)
		other, _ := press.Expand(ts)
		s, _ := press.Pack(pieces)
		otherS, _ := press.Pack(pieces)
		scribble(made)
		scribble(s)
		again, _ := press.Expand(ts)
		againS, _ := press.Pack(pieces)
		if string(other) != want || string(again) != want || !bytes.Equal(otherS, stream) || !bytes.Equal(againS, stream) {
			t.Fatalf("of %v: %q, %q, want %q; % x, % x, want % x", ts, other, again, want, otherS, againS, stream)
		}
	}
	empty, _ := press.Expand(nil)
	scribble(empty)
	none, _ := press.Pack(nil)
	scribble(none)
	if s, _ := press.Pack(nil); string(s) != "PZ1\x80" {
		t.Errorf("Pack(nil) = % x", s)
	}
}

func scribbleTokens(ts []api.Token) {
	ts = ts[:cap(ts)]
	for i := range ts {
		ts[i] = api.Token{Len: -1, Dist: -1, Byte: -1}
	}
}

func TestP2ListsOfAStreamAreFresh(t *testing.T) {
	d := &dice{11}
	for i := 0; i < 300; i++ {
		s := modelStream(d.pieces())
		want, data, _ := modelRead(s)
		first, _ := press.Decompress(s)
		second, _ := press.Decompress(s)
		pieces, _ := press.Unpack(s)
		other, _ := press.Unpack(s)
		scribble(first)
		// Each list is written over in turn, and those behind it are still what they were.
		for k := range pieces {
			if !reflect.DeepEqual(pieces[k:], want[k:]) {
				t.Fatalf("the lists of % x share memory: %v, want %v", s, pieces[k:], want[k:])
			}
			scribbleTokens(pieces[k])
		}
		room := pieces[:cap(pieces)]
		for k := range room {
			room[k] = nil
		}
		again, _ := press.Decompress(s)
		piecesAgain, _ := press.Unpack(s)
		if string(second) != data || string(again) != data || fmt.Sprint(other) != fmt.Sprint(want) || fmt.Sprint(piecesAgain) != fmt.Sprint(want) {
			t.Fatalf("of % x: %q, %q, want %q; %v, %v, want %v", s, second, again, data, other, piecesAgain, want)
		}
	}
}

func TestP2NothingOfAStreamIsKept(t *testing.T) {
	s := []byte("PZ1\x46\x10aa\x80")
	data, _ := press.Decompress(s)
	pieces, _ := press.Unpack(s)
	scribble(s)
	if string(data) != "a" || !reflect.DeepEqual(pieces, [][]api.Token{literals("a")}) {
		t.Errorf("an answer changed with what was handed in: %q, %v", data, pieces)
	}
	if e, f := callOnStream(t, s); e != api.ErrMagic || f != api.ErrMagic {
		t.Errorf("of a changed stream: %d, %d", e, f)
	}
}

func TestP2NothingIsKept(t *testing.T) {
	ts := literals("ab", copyOf(3, 2))
	pieces := [][]api.Token{ts}
	made, _ := press.Expand(ts)
	s, _ := press.Pack(pieces)
	want := append([]byte{}, s...)
	ts[0] = literal('z')
	if string(made) != "ababa" || !bytes.Equal(s, want) {
		t.Errorf("an answer changed with what was handed in: %q, % x", made, s)
	}
	if made, _ := press.Expand(ts); string(made) != "zbzbz" {
		t.Errorf("Expand of changed tokens = %q", made)
	}
	if s, _ := press.Pack(pieces); !bytes.Equal(s, modelStream(pieces)) {
		t.Errorf("Pack of changed tokens = % x", s)
	}
}
