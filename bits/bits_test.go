package bits

import (
	"fmt"
	"strconv"
	"strings"
	"testing"
)

// written gives the full bytes of w as binary digits.
func written(w *Writer) string {
	var s strings.Builder
	for _, b := range w.Bytes() {
		fmt.Fprintf(&s, "%08b", b)
	}
	return s.String()
}

// filled gives the digits with the noughts behind them that fill the byte.
func filled(digits string) string {
	for len(digits)%8 != 0 {
		digits += "0"
	}
	return digits
}

func TestNumber(t *testing.T) {
	for v, want := range map[int]string{1: "1", 2: "010", 3: "011", 4: "00100", 5: "00101", 63: "00000111111", 64: "0000001000000", 65: "0000001000001"} {
		var w Writer
		w.Number(v)
		w.Fill()
		if got := written(&w); got != filled(want) {
			t.Errorf("the number %d: %s, want %s", v, got, filled(want))
		}
	}
}

func TestNumberAndItsLength(t *testing.T) {
	for v := 1; v <= 5000; v++ {
		digits := strconv.FormatInt(int64(v), 2)
		want := strings.Repeat("0", len(digits)-1) + digits
		var w Writer
		w.Number(v)
		w.Fill()
		if got := written(&w); got != filled(want) || NumberLength(v) != len(want) {
			t.Errorf("the number %d: %s of %d, want %s of %d", v, got, NumberLength(v), filled(want), len(want))
		}
	}
}

func TestByteAtEachPlace(t *testing.T) {
	for ahead := 0; ahead < 8; ahead++ {
		for v := 0; v < 256; v++ {
			var w Writer
			for i := 0; i < ahead; i++ {
				w.Bit(1)
			}
			w.Byte(v)
			w.Fill()
			want := filled(strings.Repeat("1", ahead) + fmt.Sprintf("%08b", v))
			if got := written(&w); got != want {
				t.Errorf("%d behind %d bits: %s, want %s", v, ahead, got, want)
			}
		}
	}
}

func TestFillOfFullBytes(t *testing.T) {
	var w Writer
	w.Fill()
	if len(w.Bytes()) != 0 {
		t.Errorf("nothing, filled: % x", w.Bytes())
	}
	w.Byte(7)
	w.Fill()
	w.Fill()
	if s := w.Bytes(); len(s) != 1 || s[0] != 7 {
		t.Errorf("a byte, filled: % x", s)
	}
}
