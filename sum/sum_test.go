package sum

import (
	"bytes"
	"testing"
)

func TestOfLongData(t *testing.T) {
	// 255 times one byte brings the first count back to 0, and the second to b times 255*256/2, which is 0 too.
	for b := 0; b < 256; b++ {
		if n := Of(bytes.Repeat([]byte{byte(b)}, 255*1000)); n != 0 {
			t.Errorf("255000 times %d: %d", b, n)
		}
	}
}

func TestOfStaysInTwoBytes(t *testing.T) {
	for a := 0; a < 256; a++ {
		for b := 0; b < 256; b++ {
			n := Of([]byte{byte(a), byte(b)})
			first, second := (a+b)%255, (a+a+b)%255
			if n != first+256*second {
				t.Errorf("%d, %d: %d, want %d and %d", a, b, n, first, second)
			}
		}
	}
}
