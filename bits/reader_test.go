package bits

import (
	"testing"

	"press/api"
)

// laid gives a Reader of these binary digits, filled up with noughts to whole bytes.
func laid(digits string) *Reader {
	var w Writer
	for _, c := range digits {
		w.Bit(int(c - '0'))
	}
	w.Fill()
	return NewReader(w.Bytes())
}

func TestReadWhatWasWritten(t *testing.T) {
	for ahead := 0; ahead < 8; ahead++ {
		var w Writer
		for i := 0; i < ahead; i++ {
			w.Bit(1)
		}
		for v := 1; v < 128; v++ {
			w.Number(v)
			w.Byte(2*v + 1)
		}
		w.Fill()
		r := NewReader(w.Bytes())
		for i := 0; i < ahead; i++ {
			r.Bit()
		}
		for v := 1; v < 128; v++ {
			number, e := r.Number(api.ErrToken)
			b, f := r.Byte()
			if number != v || e != api.OK || b != 2*v+1 || f != api.OK {
				t.Fatalf("%d bits behind the beginning: %d, %d, %d, %d, want %d and %d", ahead, number, e, b, f, v, 2*v+1)
			}
		}
		if e := r.Rest(); e != api.OK || !r.AtEnd() {
			t.Errorf("the rest: %d", e)
		}
	}
}

func TestReadTooManyNoughts(t *testing.T) {
	for _, tooMany := range []api.Errno{api.ErrFrame, api.ErrToken} {
		v, e := laid("00000001").Number(tooMany)
		if v != 0 || e != tooMany {
			t.Errorf("seven noughts: %d, %d, want %d", v, e, tooMany)
		}
	}
	v, e := laid("0000001111111").Number(api.ErrFrame)
	if v != 127 || e != api.OK {
		t.Errorf("six noughts: %d, %d", v, e)
	}
}

func TestReadWhereNothingIs(t *testing.T) {
	r := NewReader(nil)
	_, e := r.Bit()
	_, f := r.Byte()
	_, g := r.Number(api.ErrFrame)
	if e != api.ErrShort || f != api.ErrShort || g != api.ErrShort || r.Rest() != api.OK || !r.AtEnd() {
		t.Errorf("of nothing: %d, %d, %d", e, f, g)
	}
	for ahead := 1; ahead < 8; ahead++ {
		r := NewReader([]byte{255})
		for i := 0; i < ahead; i++ {
			r.Bit()
		}
		if b, e := r.Byte(); b != 0 || e != api.ErrShort || !r.AtEnd() {
			t.Errorf("a byte %d bits behind the beginning of the last: %d, %d", ahead, b, e)
		}
	}
}

func TestReadRest(t *testing.T) {
	for ahead := 1; ahead < 8; ahead++ {
		for one := 0; one < 8; one++ {
			r := NewReader([]byte{128 >> one, 255})
			for i := 0; i < ahead; i++ {
				r.Bit()
			}
			want := api.OK
			if one >= ahead {
				want = api.ErrPad
			}
			if e := r.Rest(); e != want {
				t.Errorf("a 1 at %d, %d bits read: %d, want %d", one, ahead, e, want)
			}
		}
	}
	r := NewReader([]byte{255})
	if e := r.Rest(); e != api.OK || r.AtEnd() {
		t.Errorf("at the beginning of a byte there is no rest: %d", e)
	}
}

func TestBytesRead(t *testing.T) {
	r := NewReader([]byte{1, 2, 3})
	for read := 0; read <= 24; read++ {
		if got := r.BytesRead(); got != read/8 || r.AtEnd() != (read == 24) {
			t.Errorf("%d bits read: %d bytes", read, got)
		}
		r.Bit()
	}
	if got := r.BytesRead(); got != 3 {
		t.Errorf("beyond the end: %d bytes", got)
	}
}
