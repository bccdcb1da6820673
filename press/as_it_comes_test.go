package press_test

import (
	"bytes"
	"testing"

	"press/api"
	"press/press"
)

func TestP12New(t *testing.T) {
	x, y := press.NewEncoder(), press.NewEncoder()
	z, w := press.NewDecoder(), press.NewDecoder()
	if x == nil || y == nil || z == nil || w == nil || x == y || z == w {
		t.Fatal("no Encoder or Decoder, or the same twice")
	}
	checkWrite(t, x, "", "PZ1", api.OK)
	checkWrite(t, y, "", "PZ1", api.OK)
	checkFeed(t, z, "PZ1\x80", "", api.OK)
	checkFeed(t, w, "PZ1\x81", "", api.ErrPad)
	checkEnd(t, z, api.OK)
}

func TestP12NoEncoder(t *testing.T) {
	var none *press.Encoder
	var plain press.Encoder
	for _, x := range []*press.Encoder{none, &plain, {}, new(press.Encoder)} {
		checkEncoderClosed(t, x)
	}
	for _, x := range []*press.Encoder{nil, {}} {
		checkClose(t, x, "", api.ErrClosed)
		checkWrite(t, x, "a", "", api.ErrClosed)
		if y, e := x.Write(nil); len(y) != 0 || e != api.ErrClosed {
			t.Errorf("Write(nil) = % x, %d", y, e)
		}
	}
	// One that was overwritten by one that the caller made is such a one.
	x := press.NewEncoder()
	checkWrite(t, x, "a", "PZ1", api.OK)
	*x = press.Encoder{}
	checkEncoderClosed(t, x)
}

func TestP12NoDecoder(t *testing.T) {
	var none *press.Decoder
	var plain press.Decoder
	for _, x := range []*press.Decoder{none, &plain, {}, new(press.Decoder)} {
		checkDecoderClosed(t, x)
	}
	for _, x := range []*press.Decoder{nil, {}} {
		checkEnd(t, x, api.ErrClosed)
		checkFeed(t, x, "PZ1\x80", "", api.ErrClosed)
		if y, e := x.Feed(nil); len(y) != 0 || e != api.ErrClosed {
			t.Errorf("Feed(nil) = % x, %d", y, e)
		}
	}
	x := press.NewDecoder()
	checkFeed(t, x, "PZ1", "", api.OK)
	*x = press.Decoder{}
	checkDecoderClosed(t, x)
}

func TestP1LongCalls(t *testing.T) {
	long := make([]byte, 1<<25)
	x, z := press.NewEncoder(), press.NewDecoder()
	for i := 0; i < 3; i++ {
		y, e := x.Write(long)
		data, f := z.Feed(long)
		if len(y) != 0 || e != api.ErrLong || len(data) != 0 || f != api.ErrLong {
			t.Errorf("of %d bytes: %d bytes, %d; %d bytes, %d", len(long), len(y), e, len(data), f)
		}
	}
	checkClose(t, x, "PZ1\x80", api.OK)
	checkEnd(t, z, api.ErrLong)
	x, z = nil, &press.Decoder{}
	y, e := x.Write(long)
	data, f := z.Feed(long)
	if len(y) != 0 || e != api.ErrClosed || len(data) != 0 || f != api.ErrClosed {
		t.Errorf("of %d bytes: %d bytes, %d; %d bytes, %d", len(long), len(y), e, len(data), f)
	}
}

// TestP1ManyCalls: any calls in any order, with bytes of all sorts; what they answer is the model's.
func TestP1ManyCalls(t *testing.T) {
	d := &dice{32}
	for i := 0; i < 100; i++ {
		x, m := press.NewEncoder(), &modelEncoder{}
		z, n := press.NewDecoder(), &modelDecoder{}
		for k := 0; k < 20; k++ {
			p := d.data(d.below(80))
			if d.below(8) == 0 {
				p = letters(d.below(5000))
			}
			want, e := m.write(p)
			checkWrite(t, x, p, want, e)
			if d.below(25) == 0 {
				want, e := m.close()
				checkClose(t, x, want, e)
			}
			s := d.further(k == 0)
			want, e = n.feed(s)
			checkFeed(t, z, s, want, e)
			if d.below(25) == 0 {
				checkEnd(t, z, n.end())
			}
		}
	}
}

// further gives what a stream may begin or go on with: full frames, at times a short one, the end, or something wrong.
func (d *dice) further(first bool) string {
	pieces := [][]api.Token{d.tokens(64), d.tokens(64)}[:d.below(3)]
	if d.below(20) == 0 {
		pieces = append(pieces, d.tokens(1+d.below(63)))
	}
	s := modelStream(pieces)
	if d.below(20) > 0 {
		s = s[:len(s)-1]
	}
	if d.below(20) == 0 {
		s[d.below(len(s))] = byte(d.below(256))
	}
	if first {
		return string(s)
	}
	return string(s[3:])
}

// withMore gives bytes with others behind them in the same memory, and all of it.
func withMore(p, more string) ([]byte, []byte) {
	all := []byte(p + more)
	return all[:len(p)], all
}

// TestP2NothingOfACallIsWritten: neither what is handed in nor what stands behind it; and what stands behind is not read.
func TestP2NothingOfACallIsWritten(t *testing.T) {
	d := &dice{33}
	for i := 0; i < 100; i++ {
		data := d.data(d.below(300))
		x, m := press.NewEncoder(), &modelEncoder{}
		for _, part := range d.parts(data, 100) {
			p, all := withMore(part, data+letters(80))
			kept := string(all)
			want, _ := m.write(part)
			got, e := x.Write(p)
			if string(got) != want || e != api.OK || string(all) != kept {
				t.Fatalf("Write(%q) = % x, %d, want % x", part, got, e, want)
			}
		}
		s := string(modelStream(d.pieces()))
		z, n := press.NewDecoder(), &modelDecoder{}
		for _, part := range append(d.parts(s, 60), "x", "PZ1") {
			p, all := withMore(part, s+letters(80))
			kept := string(all)
			want, e := n.feed(part)
			got, gotE := z.Feed(p)
			if string(got) != want || gotE != e || string(all) != kept {
				t.Fatalf("Feed(%q) = %q, %d, want %q, %d", part, got, gotE, want, e)
			}
		}
	}
}

// TestP2NothingOfACallIsKept: all that was handed in and all that came out is written over behind each call, and the next ones answer the same.
func TestP2NothingOfACallIsKept(t *testing.T) {
	d := &dice{34}
	for i := 0; i < 100; i++ {
		x, m := press.NewEncoder(), &modelEncoder{}
		for _, part := range d.parts(d.data(d.below(400)), 100) {
			p, all := withMore(part, letters(30))
			want, _ := m.write(part)
			got, e := x.Write(p)
			if string(got) != want || e != api.OK {
				t.Fatalf("Write(%q) = % x, %d, want % x", part, got, e, want)
			}
			scribble(all)
			scribble(got)
		}
		want, _ := m.close()
		checkClose(t, x, want, api.OK)

		s := string(modelStream(d.pieces()))
		z, n := press.NewDecoder(), &modelDecoder{}
		for _, part := range d.parts(s, 60) {
			p, all := withMore(part, letters(30))
			want, _ := n.feed(part)
			got, e := z.Feed(p)
			if string(got) != want || e != api.OK {
				t.Fatalf("Feed(%q) = %q, %d, want %q", part, got, e, want)
			}
			scribble(all)
			scribble(got)
		}
		checkEnd(t, z, api.OK)
	}
}

// answered: a list that came out, and what it said then.
type answered struct {
	list []byte
	said string
}

// checkApart writes over one list after the other, and holds those that are left against what they said.
func checkApart(t *testing.T, all []answered) {
	t.Helper()
	for i := range all {
		for k, a := range all[i:] {
			if string(a.list) != a.said {
				t.Fatalf("answer %d changed behind answer %d: % x, was % x", i+k, i-1, a.list, a.said)
			}
		}
		scribble(all[i].list)
	}
}

// TestP2AnswersAreApart: no call changes an earlier answer, and no two answers share memory, be they of one Encoder or Decoder or of two.
func TestP2AnswersAreApart(t *testing.T) {
	d := &dice{35}
	for i := 0; i < 60; i++ {
		var all []answered
		data := d.data(d.below(400))
		xs := []*press.Encoder{press.NewEncoder(), press.NewEncoder()}
		zs := []*press.Decoder{press.NewDecoder(), press.NewDecoder()}
		for _, part := range d.parts(data, 130) {
			for k, x := range xs {
				y, _ := x.Write([]byte(part))
				all = append(all, answered{y, string(y)})
				back, _ := zs[k].Feed(y)
				all = append(all, answered{back, string(back)})
			}
		}
		for k, x := range xs {
			y, _ := x.Close()
			all = append(all, answered{y, string(y)})
			back, _ := zs[k].Feed(append(y, 1))
			all = append(all, answered{back, string(back)})
		}
		for i, a := range all {
			if string(a.list) != a.said {
				t.Fatalf("a later call changed answer %d: % x, was % x", i, a.list, a.said)
			}
		}
		checkApart(t, all)
	}
}

// TestP2SameCallsSameAnswers: what comes out hangs on the calls of this one alone, not on what went before elsewhere.
func TestP2SameCallsSameAnswers(t *testing.T) {
	d := &dice{36}
	for i := 0; i < 30; i++ {
		parts := d.parts(d.data(d.below(400)), 130)
		var first []string
		for turn := 0; turn < 3; turn++ {
			x := press.NewEncoder()
			var said []string
			for _, p := range parts {
				y, _ := x.Write([]byte(p))
				said = append(said, string(y))
				press.Compress([]byte(letters(70 * turn)))
				press.NewEncoder().Write([]byte(letters(100)))
			}
			y, _ := x.Close()
			said = append(said, string(y))
			if turn == 0 {
				first = said
			}
			for k := range said {
				if said[k] != first[k] {
					t.Fatalf("of %q: answer %d is % x, and was % x", parts, k, said[k], first[k])
				}
			}
		}
	}
}

// TestP2ACopyDisturbsNothing: the caller may copy what NewEncoder and NewDecoder made; whatever is asked of the copy, the one that was copied answers as if there were none.
func TestP2ACopyDisturbsNothing(t *testing.T) {
	d := &dice{37}
	for i := 0; i < 60; i++ {
		x, m := press.NewEncoder(), &modelEncoder{}
		for _, part := range d.parts(d.data(d.below(300)), 100) {
			other := *x
			other.Write([]byte(letters(d.below(200))))
			want, e := m.write(part)
			checkWrite(t, x, part, want, e)
			other.Write([]byte(letters(d.below(50))))
			other.Close()
		}
		want, e := m.close()
		checkClose(t, x, want, e)

		z, n := press.NewDecoder(), &modelDecoder{}
		for _, part := range d.parts(string(modelStream(d.pieces())), 40) {
			other := *z
			other.Feed(bytes.Repeat([]byte{1}, d.below(100)))
			want, e := n.feed(part)
			checkFeed(t, z, part, want, e)
			other.Feed([]byte(letters(d.below(50))))
			other.End()
		}
		checkEnd(t, z, n.end())
	}
}
