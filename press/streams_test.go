package press_test

import (
	"encoding/hex"
	"fmt"
	"strings"
	"testing"

	"press/api"
	"press/press"
)

// checkRead holds both calls against what is to come out.
func checkRead(t *testing.T, s []byte, pieces [][]api.Token, data string, e api.Errno) {
	t.Helper()
	gotData, gotE := press.Decompress(s)
	if string(gotData) != data || gotE != e {
		t.Errorf("Decompress(% x) = %q, %d, want %q, %d", s, gotData, gotE, data, e)
	}
	gotPieces, gotE := press.Unpack(s)
	if fmt.Sprint(gotPieces) != fmt.Sprint(pieces) || gotE != e {
		t.Errorf("Unpack(% x) = %v, %d, want %v, %d", s, gotPieces, gotE, pieces, e)
	}
	if e != api.OK {
		return
	}
	again, gotE := press.Pack(gotPieces)
	if string(again) != string(s) || gotE != api.OK {
		t.Errorf("Pack of what Unpack tells of % x = % x, %d", s, again, gotE)
	}
}

// checkModel holds both calls against the model.
func checkModel(t *testing.T, s []byte) api.Errno {
	t.Helper()
	pieces, data, e := modelRead(s)
	checkRead(t, s, pieces, data, e)
	return e
}

func checkWrong(t *testing.T, s []byte, e api.Errno) {
	t.Helper()
	checkRead(t, s, nil, "", e)
}

// streamOf lays bits (blanks are left out) behind PZ1, fills the byte with 0, and lays bytes behind.
func streamOf(bits string, behind ...byte) []byte {
	bits = strings.ReplaceAll(bits, " ", "")
	for len(bits)%8 != 0 {
		bits += "0"
	}
	s := []byte("PZ1")
	for i := 0; i < len(bits); i += 8 {
		v := byte(0)
		for _, c := range bits[i : i+8] {
			v = 2*v + byte(c-'0')
		}
		s = append(s, v)
	}
	return append(s, behind...)
}

func TestP6Examples(t *testing.T) {
	for _, c := range []struct {
		s string
		e api.Errno
	}{
		{"505a3180", api.OK}, {"505a31", api.ErrShort}, {"505a", api.ErrShort}, {"50", api.ErrShort}, {"", api.ErrShort}, {"505b", api.ErrMagic},
		{"505a318000", api.ErrMore}, {"505a3181", api.ErrPad}, {"505a3100", api.ErrFrame}, {"505a3158", api.ErrToken},
		{"505a314611", api.ErrPad}, {"505a3146106162", api.ErrSum}, {"505a3146106161", api.ErrShort}, {"505a314610616146", api.ErrFrame},
	} {
		s, err := hex.DecodeString(c.s)
		if err != nil {
			t.Fatal(err)
		}
		checkRead(t, s, nil, "", c.e)
	}
	checkRead(t, nil, nil, "", api.ErrShort)
	checkRead(t, []byte("PZ1\x46\x10aa\x80"), [][]api.Token{literals("a")}, "a", api.OK)
	checkRead(t, []byte("PZ1\x29\x86\xa0\x85\xcd\x80"), [][]api.Token{literals("a", copyOf(3, 1))}, "aaaa", api.OK)
}

func TestP6Magic(t *testing.T) {
	whole := []byte("PZ1\x46\x10aa\x80")
	for i := 0; i < 3; i++ {
		for b := 0; b < 256; b++ {
			s := append([]byte{}, whole...)
			s[i] = byte(b)
			if s[i] == whole[i] {
				continue
			}
			checkWrong(t, s, api.ErrMagic)
			// A wrong byte shows as it is read, whether others follow or not.
			checkWrong(t, s[:i+1], api.ErrMagic)
			checkWrong(t, s[:i], api.ErrShort)
		}
	}
}

func TestP6Long(t *testing.T) {
	end := append([]byte("PZ1\x80"), make([]byte, 5000)...)
	checkWrong(t, end[:4096], api.ErrMore)
	for _, n := range []int{4097, 4098, 5000} {
		checkWrong(t, end[:n], api.ErrLong)
		checkWrong(t, make([]byte, n), api.ErrLong)
	}
	checkWrong(t, make([]byte, 4096), api.ErrMagic)
	// 583 frames of 7 bytes and one of 11 fill a stream to MaxStream.
	var pieces [][]api.Token
	for len(pieces) < 583 {
		pieces = append(pieces, literals("a", copyOf(63, 1)))
	}
	pieces = append(pieces, literals("abc", copyOf(2, 1), copyOf(29, 1), copyOf(30, 1)))
	s := modelStream(pieces)
	if len(s) != 4096 {
		t.Fatalf("a stream of %d bytes", len(s))
	}
	if e := checkModel(t, s); e != api.OK {
		t.Errorf("of a stream of 4096 bytes: %d", e)
	}
	checkWrong(t, s[:4095], api.ErrShort)
	checkWrong(t, append(s, 0), api.ErrLong)
}

func TestP6Number(t *testing.T) {
	for v := 2; v < 128; v++ {
		want := api.ErrShort
		if v > 65 {
			want = api.ErrFrame
		}
		number := modelNumber(v)
		s := streamOf(number)
		checkWrong(t, s, want)
		if len(number) > 8 {
			// What is asked of a number is asked when it has been read whole.
			checkWrong(t, s[:4], api.ErrShort)
		}
	}
	for _, bits := range []string{"00000000", "00000001", "00000001 00000000", "00000001 11111111"} {
		checkWrong(t, streamOf(bits), api.ErrFrame)
	}
	for _, bits := range []string{"00000010", "00000011"} {
		checkWrong(t, streamOf(bits), api.ErrShort)
	}
}

func TestP6End(t *testing.T) {
	for b := 128; b < 256; b++ {
		for _, ahead := range []string{"PZ1", "PZ1\x46\x10aa"} {
			want := api.ErrPad
			s := append([]byte(ahead), byte(b))
			if b == 128 {
				checkModel(t, s)
				want = api.ErrMore
			} else {
				checkWrong(t, s, want)
			}
			for more := 0; more < 256; more++ {
				checkWrong(t, append(s, byte(more)), want)
			}
		}
	}
}

func TestP6BehindAShortFrame(t *testing.T) {
	for n := 1; n <= 64; n++ {
		first := modelStream([][]api.Token{literals(letters(n))})
		first = first[:len(first)-1]
		for m := 1; m <= 64; m++ {
			s := append(append([]byte{}, first...), modelStream([][]api.Token{literals(letters(m))})[3:]...)
			if n < 64 {
				checkWrong(t, s, api.ErrFrame)
			} else if e := checkModel(t, s); e != api.OK {
				t.Errorf("of frames of %d and %d bytes: %d", n, m, e)
			}
		}
	}
	// The frame's number shows it, and no bit behind that is wanted; but all its own are.
	checkWrong(t, []byte("PZ1\x46\x10aa\x40"), api.ErrFrame)
	checkWrong(t, []byte("PZ1\x46\x10aa\x02"), api.ErrShort)
	checkWrong(t, []byte("PZ1\x46\x10aa\x02\x00"), api.ErrFrame)
	checkWrong(t, []byte("PZ1\x46\x10aa\x01"), api.ErrFrame)
	checkWrong(t, []byte("PZ1\x46\x10aa"), api.ErrShort)
}

// TestP6Len: a Len beyond what is left shows before Dist is read.
func TestP6Len(t *testing.T) {
	for ahead := 0; ahead <= 63; ahead++ {
		begin := modelNumber(65) + modelBits(literals(letters(ahead)))
		for length := 2; length <= 128; length++ {
			bits := begin + "1" + modelNumber(length-1)
			if length > 64-ahead {
				checkWrong(t, streamOf(bits), api.ErrToken)
			} else if len(bits)%8 == 0 {
				checkWrong(t, streamOf(bits), api.ErrShort)
			}
			checkModel(t, streamOf(bits+"1"))
		}
	}
}

func TestP6Dist(t *testing.T) {
	for ahead := 0; ahead <= 62; ahead++ {
		begin := modelNumber(65) + modelBits(literals(letters(ahead)))
		for dist := 1; dist <= 127; dist++ {
			bits := begin + "1 1" + modelNumber(dist)
			if dist > ahead || dist > 32 {
				checkWrong(t, streamOf(bits), api.ErrToken)
			} else {
				checkModel(t, streamOf(bits))
			}
		}
	}
	// What an earlier frame made is out of a copy's reach.
	full := string(modelStream([][]api.Token{literals(letters(64))})[3:])
	full = full[:len(full)-1]
	behind := string(streamOf("00101 1 010 1")[3:])
	checkWrong(t, []byte("PZ1"+full+behind), api.ErrToken)
}

func TestP6NoughtsOfATokensNumbers(t *testing.T) {
	for ahead := 0; ahead <= 40; ahead++ {
		begin := modelNumber(65) + modelBits(literals(letters(ahead)))
		for _, bits := range []string{"1 0000000", "1 1 0000000", "1 00101 0000000"} {
			s := streamOf(begin + bits)
			checkWrong(t, s, api.ErrToken)
			for cut := 3; cut < len(s); cut++ {
				checkModel(t, s[:cut])
			}
		}
		for _, bits := range []string{"1 000000", "1 1 000000"} {
			for fill := 0; fill < 8; fill++ {
				checkModel(t, streamOf(begin+bits+strings.Repeat("1", fill)))
			}
		}
	}
	// Six noughts fill the byte: one more is too many, but is not there.
	checkWrong(t, streamOf("010 1 0000"), api.ErrShort)
	checkWrong(t, streamOf("00101 0 01100001 1 1 000000 0"), api.ErrToken)
	checkWrong(t, streamOf("00100 0 01100001 0 01100001 1"), api.ErrShort)
}

func TestP6PadOfAFrame(t *testing.T) {
	for n := 1; n <= 20; n++ {
		bits := modelNumber(n+1) + modelBits(literals(letters(n)))
		sum := modelSum(letters(n))
		for pad := (8 - len(bits)%8) % 8; pad > 0; pad-- {
			wrong := bits + strings.Repeat("0", pad-1) + "1"
			checkWrong(t, streamOf(wrong), api.ErrPad)
			checkWrong(t, streamOf(wrong, byte(sum), byte(sum>>8), 128), api.ErrPad)
			checkWrong(t, streamOf(wrong, byte(sum+1), byte(sum>>8), 128), api.ErrPad)
		}
	}
}

func TestP6Sum(t *testing.T) {
	for low := 0; low < 256; low++ {
		for high := 0; high < 256; high++ {
			s := []byte{'P', 'Z', '1', 0x29, 0x86, 0xa0, byte(low), byte(high), 0x80}
			if low == 0x85 && high == 0xcd {
				checkModel(t, s)
				continue
			}
			if _, e := press.Decompress(s); e != api.ErrSum {
				t.Fatalf("Decompress(% x): %d", s, e)
			}
			if _, e := press.Unpack(s); e != api.ErrSum {
				t.Fatalf("Unpack(% x): %d", s, e)
			}
		}
		// One byte is no sum, whatever it is.
		checkWrong(t, []byte{'P', 'Z', '1', 0x29, 0x86, 0xa0, byte(low)}, api.ErrShort)
		checkWrong(t, []byte{'P', 'Z', '1', 0x29, 0x86, 0xa0, byte(low), 0xcc}, api.ErrSum)
	}
	// The sum of a piece is of that piece alone, and of all of it.
	pieces := [][]api.Token{literals(letters(64)), literals("zz", copyOf(62, 2)), literals("q")}
	if e := checkModel(t, modelStream(pieces)); e != api.OK {
		t.Errorf("three pieces: %d", e)
	}
	// A count of the sum is never 255, though that is 0 modulo 255.
	checkWrong(t, streamOf("010 0 00000000", 255, 0, 128), api.ErrSum)
	checkWrong(t, streamOf("010 0 00000000", 0, 255, 128), api.ErrSum)
	checkRead(t, streamOf("010 0 11111111", 0, 0, 128), [][]api.Token{{literal(255)}}, "\xff", api.OK)
}

func TestP6EachToken(t *testing.T) {
	for b := 0; b < 256; b++ {
		one := [][]api.Token{{literal(b)}}
		checkRead(t, modelStream(one), one, string([]byte{byte(b)}), api.OK)
	}
	for ahead := 1; ahead <= 62; ahead++ {
		for dist := 1; dist <= min(ahead, 32); dist++ {
			for length := 2; length <= 64-ahead; length++ {
				one := [][]api.Token{literals(letters(ahead), copyOf(length, dist))}
				made, _ := modelMade(one[0])
				checkRead(t, modelStream(one), one, made, api.OK)
			}
		}
	}
}

func TestP6ManyStreams(t *testing.T) {
	d := &dice{6}
	for i := 0; i < 1000; i++ {
		pieces := d.pieces()
		data := ""
		for _, ts := range pieces {
			made, _ := modelMade(ts)
			data += made
		}
		checkRead(t, modelStream(pieces), pieces, data, api.OK)
	}
}

// TestP6CutAndTurned: each beginning of a stream, and the stream with each of its bits turned, and both.
func TestP6CutAndTurned(t *testing.T) {
	d := &dice{7}
	seen := map[api.Errno]int{}
	for i := 0; i < 60; i++ {
		s := modelStream(d.pieces())
		if len(s) > 120 {
			s = modelStream([][]api.Token{d.tokens(64), d.tokens(1 + d.below(10))})
		}
		for n := range s {
			checkWrong(t, s[:n], api.ErrShort)
		}
		for bit := 0; bit < 8*len(s); bit++ {
			turned := append([]byte{}, s...)
			turned[bit/8] ^= 128 >> (bit % 8)
			seen[checkModel(t, turned)]++
			seen[checkModel(t, turned[:bit/8+1])]++
			seen[checkModel(t, append(turned, s[3:]...))]++
		}
		for more := 0; more < 256; more += 5 {
			checkWrong(t, append(s, byte(more)), api.ErrMore)
		}
	}
	for _, e := range []api.Errno{api.ErrMagic, api.ErrShort, api.ErrFrame, api.ErrToken, api.ErrPad, api.ErrSum, api.ErrMore} {
		if seen[e] == 0 {
			t.Errorf("the error %d was never met", e)
		}
	}
}

// TestP6AnyTwoBytes: whatever stands behind some beginnings.
func TestP6AnyTwoBytes(t *testing.T) {
	for v := 0; v < 1<<16; v++ {
		a, b := byte(v>>8), byte(v)
		checkModel(t, []byte{'P', 'Z', '1', a, b})
		if v%7 == 0 {
			checkModel(t, []byte{'P', 'Z', '1', 0x46, 0x10, 'a', 'a', a, b})
			checkModel(t, []byte{'P', 'Z', '1', 0x29, 0x86, a, b, 0x85, 0xcd, 0x80})
			checkModel(t, []byte{'P', 'Z', '1', a, b, 0, 0, 0x80})
		}
	}
}

// TestP6DrawnBits: tokens that are often wrong, with a right sum of what they make wherever they can be read.
func TestP6DrawnBits(t *testing.T) {
	d := &dice{8}
	seen := map[api.Errno]int{}
	for i := 0; i < 20000; i++ {
		n := 1 + d.below(70)
		bits := modelNumber(n + 1)
		for made := 0; made < n; {
			token := literal(d.below(256))
			if d.below(2) == 0 {
				token = copyOf(2+d.below(max(1, n-made-d.below(3))), 1+d.below(min(made+1, 34)))
			}
			bits += modelBits([]api.Token{token})
			made += token.Len
		}
		if d.below(4) == 0 {
			bits = bits[:d.below(len(bits))]
		}
		seen[checkModel(t, streamOf(bits, byte(d.below(256)), byte(d.below(256)), 128))]++
	}
	for _, e := range []api.Errno{api.ErrShort, api.ErrFrame, api.ErrToken, api.ErrSum} {
		if seen[e] == 0 {
			t.Errorf("the error %d was never met", e)
		}
	}
}
