package press_test

import (
	"strings"
	"testing"

	"press/api"
	"press/press"
)

func checkFeed(t *testing.T, x *press.Decoder, p, want string, e api.Errno) {
	t.Helper()
	got, gotE := x.Feed([]byte(p))
	if string(got) != want || gotE != e {
		t.Errorf("Feed of the %d bytes %.80q = %.80q (%d bytes), %d, want %.80q (%d bytes), %d", len(p), p, got, len(got), gotE, want, len(want), e)
	}
}

func checkEnd(t *testing.T, x *press.Decoder, e api.Errno) {
	t.Helper()
	if got := x.End(); got != e {
		t.Errorf("End = %d, want %d", got, e)
	}
}

// checkDecoder hands the parts to a Decoder, and holds each answer against the model. It tells the error of End.
func checkDecoder(t *testing.T, parts []string) api.Errno {
	t.Helper()
	x := press.NewDecoder()
	m := &modelDecoder{}
	for i, p := range parts {
		want, e := m.feed(p)
		got, gotE := x.Feed([]byte(p))
		if string(got) != want || gotE != e {
			t.Fatalf("of %.900q: Feed %d = %.900q, %d, want %.900q, %d", parts, i, got, gotE, want, e)
		}
	}
	want := m.end()
	if e := x.End(); e != want {
		t.Fatalf("of %.900q: End = %d, want %d", parts, e, want)
	}
	checkDecoderClosed(t, x)
	return want
}

func checkDecoderClosed(t *testing.T, x *press.Decoder) {
	t.Helper()
	for i := 0; i < 2; i++ {
		checkFeed(t, x, "", "", api.ErrClosed)
		checkFeed(t, x, "PZ1\x80", "", api.ErrClosed)
		checkFeed(t, x, "x", "", api.ErrClosed)
		checkFeed(t, x, letters(4097), "", api.ErrClosed)
		checkEnd(t, x, api.ErrClosed)
	}
}

// checkFailed: whatever is fed behind an error, it is the same error, with nothing, and the first End's too.
func checkFailed(t *testing.T, x *press.Decoder, e api.Errno) {
	t.Helper()
	for _, p := range []string{"", "x", "PZ1\x80", "\x80", "PZ1\x46\x10aa\x80", letters(4096), letters(4097), letters(3000)} {
		checkFeed(t, x, p, "", e)
	}
	checkEnd(t, x, e)
	checkDecoderClosed(t, x)
}

const (
	fullFrame = "\x02\x09\x86\x0f\xa0\x58\x37" // of 64 bytes a
	frameOfB  = "\x46\x20bb"                   // of the byte b
)

var fullPiece = strings.Repeat("a", 64)

func TestP11Examples(t *testing.T) {
	x := press.NewDecoder()
	checkFeed(t, x, "PZ1\x46\x10a", "", api.OK)
	checkFeed(t, x, "a", "a", api.OK)
	checkFeed(t, x, "\x80", "", api.OK)
	checkEnd(t, x, api.OK)
	checkDecoderClosed(t, x)

	x = press.NewDecoder()
	checkFeed(t, x, "PZ1\x46\x10aa\x81", "a", api.ErrPad)
	checkFailed(t, x, api.ErrPad)
}

func TestP11Nothing(t *testing.T) {
	x := press.NewDecoder()
	checkEnd(t, x, api.ErrShort)
	checkDecoderClosed(t, x)
	x = press.NewDecoder()
	for i := 0; i < 3; i++ {
		if got, e := x.Feed(nil); len(got) != 0 || e != api.OK {
			t.Errorf("Feed(nil) = %q, %d", got, e)
		}
	}
	checkFeed(t, x, "PZ1\x80", "", api.OK)
	if got, e := x.Feed(nil); len(got) != 0 || e != api.OK {
		t.Errorf("Feed(nil) at the end = %q, %d", got, e)
	}
	checkEnd(t, x, api.OK)
	checkDecoderClosed(t, x)
}

// TestP11EachError: each error at once, and with its last byte in a call of its own; and the data ahead of it.
func TestP11EachError(t *testing.T) {
	for _, c := range []struct {
		s, data string
		e       api.Errno
	}{
		{"Q", "", api.ErrMagic}, {"PY", "", api.ErrMagic}, {"PZ2", "", api.ErrMagic},
		{"PZ1\x00", "", api.ErrFrame}, {"PZ1\x01", "", api.ErrFrame}, {"PZ1\x02\x10", "", api.ErrFrame},
		{"PZ1" + frameOfB + "\x46", "b", api.ErrFrame}, {"PZ1" + fullFrame + frameOfB + "\x40", fullPiece + "b", api.ErrFrame}, {"PZ1" + fullFrame + "\x00", fullPiece, api.ErrFrame},
		{"PZ1\x58", "", api.ErrToken}, {"PZ1" + fullFrame + "\x58", fullPiece, api.ErrToken}, {"PZ1" + fullFrame + fullFrame + "\x2e\xa0", fullPiece + fullPiece, api.ErrToken},
		{"PZ1\x46\x11", "", api.ErrPad}, {"PZ1" + fullFrame + "\x46\x11", fullPiece, api.ErrPad}, {"PZ1\x81", "", api.ErrPad}, {"PZ1" + frameOfB + "\xc0", "b", api.ErrPad}, {"PZ1" + fullFrame + "\x81", fullPiece, api.ErrPad},
		{"PZ1\x46\x10ab", "", api.ErrSum}, {"PZ1\x46\x10ba", "", api.ErrSum}, {"PZ1" + fullFrame + fullFrame + "\x46\x20bc", fullPiece + fullPiece, api.ErrSum},
		{"PZ1\x80\x00", "", api.ErrMore}, {"PZ1\x80\x80", "", api.ErrMore}, {"PZ1" + frameOfB + "\x80P", "b", api.ErrMore}, {"PZ1" + fullFrame + "\x80" + fullFrame[:1], fullPiece, api.ErrMore},
	} {
		x := press.NewDecoder()
		checkFeed(t, x, c.s, c.data, c.e)
		checkFailed(t, x, c.e)

		last := len(c.s) - 1
		x = press.NewDecoder()
		checkFeed(t, x, c.s[:last], c.data, api.OK)
		checkFeed(t, x, "", "", api.OK)
		checkFeed(t, x, c.s[last:], "", c.e)
		checkFailed(t, x, c.e)

		x = press.NewDecoder()
		checkFeed(t, x, c.s+letters(50), c.data, c.e)
		checkFailed(t, x, c.e)

		if e := checkDecoder(t, cuts(c.s, 1)); e != c.e {
			t.Errorf("of %q byte by byte: %d, want %d", c.s, e, c.e)
		}
	}
}

// TestP11FrameEndsWithTheCall: its data comes out with its last byte, not before and not later.
func TestP11FrameEndsWithTheCall(t *testing.T) {
	x := press.NewDecoder()
	checkFeed(t, x, "PZ1", "", api.OK)
	checkFeed(t, x, fullFrame, fullPiece, api.OK)
	checkFeed(t, x, fullFrame+fullFrame, fullPiece+fullPiece, api.OK)
	checkFeed(t, x, fullFrame[:6], "", api.OK)
	checkFeed(t, x, fullFrame[6:], fullPiece, api.OK)
	checkFeed(t, x, fullFrame[:1], "", api.OK)
	checkFeed(t, x, fullFrame[1:]+fullFrame+frameOfB[:3], fullPiece+fullPiece, api.OK)
	checkFeed(t, x, "", "", api.OK)
	checkFeed(t, x, frameOfB[3:], "b", api.OK)
	checkFeed(t, x, "", "", api.OK)
	checkFeed(t, x, "\x80", "", api.OK)
	checkEnd(t, x, api.OK)
}

// TestP11BehindTheEnd: the end of a stream is no error till something stands behind it.
func TestP11BehindTheEnd(t *testing.T) {
	for b := 0; b < 256; b++ {
		x := press.NewDecoder()
		checkFeed(t, x, "PZ1"+frameOfB+"\x80", "b", api.OK)
		checkFeed(t, x, "", "", api.OK)
		checkFeed(t, x, string([]byte{byte(b)}), "", api.ErrMore)
		checkFeed(t, x, "", "", api.ErrMore)
		checkEnd(t, x, api.ErrMore)
	}
}

// TestP11EndOfEachBeginning: a stream that was cut is too short, and one that was not is right.
func TestP11EndOfEachBeginning(t *testing.T) {
	d := &dice{26}
	for i := 0; i < 40; i++ {
		s := string(modelStream(d.pieces()))
		for n := 0; n <= len(s); n++ {
			x := press.NewDecoder()
			x.Feed([]byte(s[:n]))
			want := api.ErrShort
			if n == len(s) {
				want = api.OK
			}
			checkEnd(t, x, want)
		}
	}
}

func TestP11CutInTwo(t *testing.T) {
	d := &dice{27}
	for i := 0; i < 20; i++ {
		s := string(modelStream(d.pieces()))
		for k := 0; k <= len(s); k++ {
			if e := checkDecoder(t, []string{s[:k], s[k:]}); e != api.OK {
				t.Errorf("of %q: %d", s, e)
			}
		}
	}
}

func TestP11CutEvenly(t *testing.T) {
	d := &dice{28}
	for i := 0; i < 10; i++ {
		s := string(modelStream(d.pieces()))
		for n := 1; n < 12; n++ {
			if e := checkDecoder(t, cuts(s, n)); e != api.OK {
				t.Errorf("of %q: %d", s, e)
			}
		}
	}
}

// TestP11LongestFrame: no frame is longer than that of literals alone, and a byte of it is wanted till the last has come.
func TestP11LongestFrame(t *testing.T) {
	s := string(modelStream([][]api.Token{literals(letters(64)), literals(letters(64)), literals(letters(63))}))
	for _, n := range []int{1, 2, 3, 7, 37, 75, 76, 77, 78, 79, 80} {
		if e := checkDecoder(t, cuts(s, n)); e != api.OK {
			t.Errorf("in parts of %d bytes: %d", n, e)
		}
	}
	// The longest that can be read of a frame which proves wrong.
	begin := modelNumber(65) + modelBits(literals(letters(63)))
	s = string(streamOf(begin+"1 0000001 000000", 0, 0, 128))
	for _, n := range []int{1, 2, 76, 77, 78} {
		if e := checkDecoder(t, cuts(s, n)); e != api.ErrToken {
			t.Errorf("a Len too great, in parts of %d bytes: %d", n, e)
		}
	}
}

// TestP11TurnedBits: streams with a bit turned, cut in drawn ways.
func TestP11TurnedBits(t *testing.T) {
	d := &dice{29}
	seen := map[api.Errno]int{}
	for i := 0; i < 40; i++ {
		s := modelStream(append([][]api.Token{d.tokens(64)}, d.pieces()...))
		for k := 0; k < 60; k++ {
			turned := append([]byte{}, s...)
			bit := d.below(8 * len(s))
			turned[bit/8] ^= 128 >> (bit % 8)
			if k%3 == 0 {
				turned = append(turned, s[3:]...)
			}
			if k%5 == 0 {
				turned = turned[:d.below(len(turned))]
			}
			seen[checkDecoder(t, d.parts(string(turned), 1+d.below(100)))]++
		}
	}
	for _, e := range []api.Errno{api.ErrMagic, api.ErrShort, api.ErrFrame, api.ErrToken, api.ErrPad, api.ErrSum, api.ErrMore} {
		if seen[e] == 0 {
			t.Errorf("the error %d was never met", e)
		}
	}
}

// longStream gives a stream of MaxStream bytes, and its data.
func longStream() (string, string) {
	pieces := [][]api.Token{}
	for len(pieces) < 583 {
		pieces = append(pieces, literals("a", copyOf(63, 1)))
	}
	last := literals("abc", copyOf(2, 1), copyOf(29, 1), copyOf(30, 1))
	made, _ := modelMade(last)
	return string(modelStream(append(pieces, last))), strings.Repeat(fullPiece, 583) + made
}

func TestP11MaxStream(t *testing.T) {
	s, data := longStream()
	if len(s) != 4096 {
		t.Fatalf("a stream of %d bytes", len(s))
	}
	x := press.NewDecoder()
	checkFeed(t, x, s, data, api.OK)
	checkFeed(t, x, "", "", api.OK)
	checkEnd(t, x, api.OK)
	for _, n := range []int{64, 700, 2048, 4095} {
		if e := checkDecoder(t, cuts(s, n)); e != api.OK {
			t.Errorf("of a stream of 4096 bytes in parts of %d: %d", n, e)
		}
	}
	x = press.NewDecoder()
	back := ""
	for _, p := range cuts(s, 1) {
		got, e := x.Feed([]byte(p))
		if e != api.OK {
			t.Fatalf("byte by byte: %d behind %d bytes of data", e, len(back))
		}
		back += string(got)
	}
	checkFeed(t, x, "", "", api.OK)
	if back != data {
		t.Errorf("byte by byte: %d bytes of data, want %d", len(back), len(data))
	}
	// One more: it is too long, which goes ahead of something behind the end.
	checkFeed(t, x, "x", "", api.ErrLong)
	checkFailed(t, x, api.ErrLong)
}

// TestP11TooLong: then nothing is read, not even the frames that stand ahead.
func TestP11TooLong(t *testing.T) {
	s, data := longStream()
	for _, p := range []string{s + "x", letters(4097), s[:4095] + "\x81x", s + s, letters(1 << 20)} {
		x := press.NewDecoder()
		checkFeed(t, x, p, "", api.ErrLong)
		checkFailed(t, x, api.ErrLong)
	}
	x := press.NewDecoder()
	checkFeed(t, x, s[:3], "", api.OK)
	checkFeed(t, x, s[3:]+"x", "", api.ErrLong)
	checkFailed(t, x, api.ErrLong)

	x = press.NewDecoder()
	checkFeed(t, x, s[:4095], data, api.OK)
	checkFeed(t, x, "\x80x", "", api.ErrLong)
	checkFailed(t, x, api.ErrLong)

	x = press.NewDecoder()
	checkFeed(t, x, s[:4095], data, api.OK)
	checkFeed(t, x, "\x81", "", api.ErrPad)
	checkFailed(t, x, api.ErrPad)

	// So too behind an end that came early; but an error that came ahead stays.
	x = press.NewDecoder()
	checkFeed(t, x, "PZ1\x80", "", api.OK)
	checkFeed(t, x, letters(4093), "", api.ErrLong)
	checkFailed(t, x, api.ErrLong)
	x = press.NewDecoder()
	checkFeed(t, x, "PZ1\x80", "", api.OK)
	checkFeed(t, x, letters(4092), "", api.ErrMore)
	checkFailed(t, x, api.ErrMore)
	for _, parts := range [][]string{{s, "x"}, {s[:100], s[100:], "", "x", ""}, {s[:4000], s[4000:] + "x"}, {"P", letters(4096)}, {"P", letters(4095)}} {
		checkDecoder(t, parts)
	}
}

func TestP11SideBySide(t *testing.T) {
	d := &dice{30}
	var xs []*press.Decoder
	var ms []*modelDecoder
	var rests []string
	for i := 0; i < 12; i++ {
		xs = append(xs, press.NewDecoder())
		ms = append(ms, &modelDecoder{})
		rests = append(rests, string(modelStream(d.pieces())))
	}
	for i := 0; i < 3000; i++ {
		k := d.below(len(xs))
		if d.below(60) == 0 {
			checkEnd(t, xs[k], ms[k].end())
			if d.below(2) == 0 {
				xs[k], ms[k], rests[k] = press.NewDecoder(), &modelDecoder{}, string(modelStream(d.pieces()))
			}
			continue
		}
		n := min(len(rests[k]), d.below(30))
		p := rests[k][:n]
		rests[k] = rests[k][n:]
		if d.below(80) == 0 {
			p += "\x01"
		}
		want, e := ms[k].feed(p)
		checkFeed(t, xs[k], p, want, e)
	}
	for k := range xs {
		checkEnd(t, xs[k], ms[k].end())
		checkDecoderClosed(t, xs[k])
	}
}

// TestP10P11ThereAndBack: what an Encoder writes a Decoder reads, as it comes.
func TestP10P11ThereAndBack(t *testing.T) {
	d := &dice{31}
	for i := 0; i < 100; i++ {
		data := d.data(d.below(600))
		x, z := press.NewEncoder(), press.NewDecoder()
		back := ""
		for _, p := range d.parts(data, 150) {
			s, e := x.Write([]byte(p))
			for _, part := range d.parts(string(s), 40) {
				got, f := z.Feed([]byte(part))
				if e != api.OK || f != api.OK {
					t.Fatalf("of %q: %d, %d", data, e, f)
				}
				back += string(got)
			}
		}
		s, e := x.Close()
		got, f := z.Feed(s)
		if g := z.End(); e != api.OK || f != api.OK || g != api.OK || back+string(got) != data {
			t.Fatalf("%q came back as %q; %d, %d, %d", data, back+string(got), e, f, g)
		}
	}
}
