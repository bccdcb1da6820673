package press

import (
	"press/api"
	"press/stream"
)

// Decoder takes a stream piece by piece.
type Decoder struct {
	open   bool         // false in the zero value: what the caller made is closed
	failed api.Errno    // that of an earlier Feed
	taken  int          // how many bytes of the stream have been taken
	stage  stream.Stage // what comes behind what was read whole
	rest   []byte       // the bytes taken behind what was read whole; another list takes its place, but nothing is written into it
}

// NewDecoder makes a Decoder (P11).
func NewDecoder() *Decoder { return &Decoder{open: true} }

// Feed takes bytes of a stream, and gives data (P11). What was read whole is not read again, so it need not be kept.
func (x *Decoder) Feed(p []byte) ([]byte, api.Errno) {
	if x == nil || !x.open {
		return nil, api.ErrClosed
	}
	if x.failed != api.OK {
		return nil, x.failed
	}
	if len(p) > api.MaxStream-x.taken {
		x.fail(api.ErrLong)
		return nil, api.ErrLong
	}
	s := joined(x.rest, p)
	got, e := stream.ReadOn(s, x.stage)
	data := dataOf(got.Frames)
	if e != api.OK && e != api.ErrShort {
		x.fail(e)
		return data, e
	}
	x.taken += len(p)
	x.stage = got.Stage
	x.rest = joined(nil, s[got.Used:])
	return data, api.OK
}

// End tells how the stream ended (P11). Each error but ErrShort was Feed's to tell.
func (x *Decoder) End() api.Errno {
	if x == nil || !x.open {
		return api.ErrClosed
	}
	e := x.failed
	if e == api.OK && x.stage != stream.Ended {
		e = api.ErrShort
	}
	*x = Decoder{}
	return e
}

// fail keeps the error, and nothing else: no more is read behind it.
func (x *Decoder) fail(e api.Errno) {
	*x = Decoder{open: true, failed: e}
}

// joined gives a fresh list of the bytes of a and then of b.
func joined(a, b []byte) []byte {
	var s []byte
	s = append(s, a...)
	s = append(s, b...)
	return s
}
