package press_test

import (
	"fmt"
	"strings"
	"testing"

	"press/api"
	"press/press"
)

func checkWrite(t *testing.T, x *press.Encoder, p, want string, e api.Errno) {
	t.Helper()
	got, gotE := x.Write([]byte(p))
	if string(got) != want || gotE != e {
		t.Errorf("Write of the %d bytes %.80q = % x, %d, want % x, %d", len(p), p, got, gotE, want, e)
	}
}

func checkClose(t *testing.T, x *press.Encoder, want string, e api.Errno) {
	t.Helper()
	got, gotE := x.Close()
	if string(got) != want || gotE != e {
		t.Errorf("Close = % x, %d, want % x, %d", got, gotE, want, e)
	}
}

// checkEncoder hands the parts to an Encoder, and holds each answer against the model and all of them against Compress.
func checkEncoder(t *testing.T, parts []string) {
	t.Helper()
	x := press.NewEncoder()
	m := &modelEncoder{}
	all := ""
	for i, p := range parts {
		want, e := m.write(p)
		got, gotE := x.Write([]byte(p))
		if string(got) != want || gotE != e {
			t.Fatalf("of %.900q: Write %d = % x, %d, want % x, %d", parts, i, got, gotE, want, e)
		}
		all += want
	}
	want, _ := m.close()
	got, e := x.Close()
	if string(got) != want || e != api.OK {
		t.Fatalf("of %.900q: Close = % x, %d, want % x", parts, got, e, want)
	}
	whole, e := press.Compress([]byte(m.data))
	if all+want != string(whole) || e != api.OK {
		t.Fatalf("of %.900q: % x in all, but Compress = % x, %d", parts, all+want, whole, e)
	}
	checkEncoderClosed(t, x)
}

// checkEncoderClosed: that it is closed is told ahead of what is too long, and a call of it opens nothing.
func checkEncoderClosed(t *testing.T, x *press.Encoder) {
	t.Helper()
	for i := 0; i < 2; i++ {
		checkWrite(t, x, "", "", api.ErrClosed)
		checkWrite(t, x, "a", "", api.ErrClosed)
		checkWrite(t, x, letters(64), "", api.ErrClosed)
		checkWrite(t, x, letters(2049), "", api.ErrClosed)
		checkClose(t, x, "", api.ErrClosed)
	}
}

func TestP10Examples(t *testing.T) {
	x := press.NewEncoder()
	checkWrite(t, x, "a", "PZ1", api.OK)
	checkWrite(t, x, "", "", api.OK)
	checkClose(t, x, "\x46\x10aa\x80", api.OK)
	checkEncoderClosed(t, x)
}

func TestP10Nothing(t *testing.T) {
	x := press.NewEncoder()
	checkClose(t, x, "PZ1\x80", api.OK)
	checkEncoderClosed(t, x)
	x = press.NewEncoder()
	for i := 0; i < 5; i++ {
		want := ""
		if i == 0 {
			want = "PZ1"
		}
		if got, e := x.Write(nil); string(got) != want || e != api.OK {
			t.Errorf("Write(nil) %d = % x, %d, want % x", i, got, e, want)
		}
	}
	checkClose(t, x, "\x80", api.OK)
	checkEncoderClosed(t, x)
}

// TestP10FullPieces: the frame of a piece comes out with the byte that fills it, not before and not later.
func TestP10FullPieces(t *testing.T) {
	const full = "\x02\x09\x86\x0f\xa0\x58\x37" // the frame of 64 bytes a
	a := strings.Repeat("a", 200)
	for _, c := range []struct {
		parts  []string
		wants  []string
		closes string
	}{
		{[]string{a[:63]}, []string{"PZ1"}, string(mustCompress(a[:63])[3:])},
		{[]string{a[:64]}, []string{"PZ1" + full}, "\x80"},
		{[]string{a[:64] + "b"}, []string{"PZ1" + full}, "\x46\x20bb\x80"},
		{[]string{a[:63], "a"}, []string{"PZ1", full}, "\x80"},
		{[]string{a[:63], "ab"}, []string{"PZ1", full}, "\x46\x20bb\x80"},
		{[]string{a[:64], "b"}, []string{"PZ1" + full, ""}, "\x46\x20bb\x80"},
		{[]string{a[:64], "", a[:64]}, []string{"PZ1" + full, "", full}, "\x80"},
		{[]string{a[:1], a[:62], "", a[:1], "b"}, []string{"PZ1", "", "", full, ""}, "\x46\x20bb\x80"},
		{[]string{a[:127], a[:1]}, []string{"PZ1" + full, full}, "\x80"},
		{[]string{a[:128] + "b"}, []string{"PZ1" + full + full}, "\x46\x20bb\x80"},
		{[]string{a[:1], a[:191] + "b"}, []string{"PZ1", full + full + full}, "\x46\x20bb\x80"},
	} {
		x := press.NewEncoder()
		for i, p := range c.parts {
			checkWrite(t, x, p, c.wants[i], api.OK)
		}
		checkClose(t, x, c.closes, api.OK)
		checkEncoderClosed(t, x)
		checkEncoder(t, c.parts)
	}
}

func mustCompress(data string) []byte {
	s, e := press.Compress([]byte(data))
	if e != api.OK {
		panic(fmt.Sprint("Compress: ", e))
	}
	return s
}

func TestP10EachLengthInOneCall(t *testing.T) {
	d := &dice{20}
	for n := 0; n <= 200; n++ {
		checkEncoder(t, []string{d.data(n)})
	}
}

func TestP10CutInTwo(t *testing.T) {
	d := &dice{21}
	for _, n := range []int{1, 63, 64, 65, 127, 128, 129, 150} {
		data := d.data(n)
		for k := 0; k <= n; k++ {
			checkEncoder(t, []string{data[:k], data[k:]})
		}
	}
}

func TestP10CutEvenly(t *testing.T) {
	d := &dice{22}
	for _, total := range []int{64, 130, 256} {
		data := d.data(total)
		for n := 1; n <= 66; n++ {
			if total < 200 || n > 3 {
				checkEncoder(t, cuts(data, n))
			}
		}
	}
}

func TestP10DrawnCuts(t *testing.T) {
	d := &dice{23}
	for i := 0; i < 200; i++ {
		data := d.data(d.below(500))
		checkEncoder(t, d.parts(data, 20+d.below(150)))
	}
}

// TestP10MaxData: so much data is taken, in one call and over several, but not a byte more; what is too long is as if it had not been handed in.
func TestP10MaxData(t *testing.T) {
	data := (&dice{24}).data(2048)
	more := data + letters(3000)
	for _, parts := range [][]string{
		{data},
		{more[:2049], data},
		{more[:4096], "", data[:2047], more[:2], data[2047:], "x"},
		{data[:2000], more[:49], data[2000:], "x", "", more[:64]},
		{data[:63], more[:1986], data[63:64], more[:1985], data[64:], more[:1]},
		append(append([]string{more[:5000]}, cuts(data, 100)...), "x", "", more),
		append(cuts(data, 64), "x"),
	} {
		checkEncoder(t, parts)
	}
}

// TestP10LongIsNotTaken tells of each error and of what comes out behind it by itself, without the model.
func TestP10LongIsNotTaken(t *testing.T) {
	x := press.NewEncoder()
	checkWrite(t, x, letters(2049), "", api.ErrLong)
	checkWrite(t, x, letters(1<<20), "", api.ErrLong)
	checkWrite(t, x, "a", "PZ1", api.OK)
	checkWrite(t, x, letters(2048), "", api.ErrLong)
	checkWrite(t, x, "", "", api.OK)
	checkClose(t, x, "\x46\x10aa\x80", api.OK)

	x = press.NewEncoder()
	checkWrite(t, x, letters(2049), "", api.ErrLong)
	checkClose(t, x, "PZ1\x80", api.OK)

	x = press.NewEncoder()
	s := string(mustCompress(letters(2048)))
	checkWrite(t, x, letters(2048), s[:len(s)-1], api.OK)
	for _, n := range []int{1, 2, 64, 2048, 2049} {
		checkWrite(t, x, letters(n), "", api.ErrLong)
	}
	checkWrite(t, x, "", "", api.OK)
	checkClose(t, x, "\x80", api.OK)
	checkEncoderClosed(t, x)
}

func TestP10SideBySide(t *testing.T) {
	d := &dice{25}
	var xs []*press.Encoder
	var ms []*modelEncoder
	for i := 0; i < 12; i++ {
		xs = append(xs, press.NewEncoder())
		ms = append(ms, &modelEncoder{})
	}
	for i := 0; i < 1500; i++ {
		k := d.below(len(xs))
		if d.below(40) == 0 {
			want, e := ms[k].close()
			checkClose(t, xs[k], want, e)
			if d.below(2) == 0 {
				xs[k], ms[k] = press.NewEncoder(), &modelEncoder{}
			}
			continue
		}
		p := d.data(d.below(100))
		if d.below(20) == 0 {
			p = letters(1500)
		}
		want, e := ms[k].write(p)
		checkWrite(t, xs[k], p, want, e)
	}
	for k := range xs {
		want, e := ms[k].close()
		checkClose(t, xs[k], want, e)
		checkEncoderClosed(t, xs[k])
	}
}
