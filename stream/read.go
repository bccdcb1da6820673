package stream

import (
	"press/api"
	"press/bits"
	"press/sum"
	"press/tokens"
)

// Frame: one that was read, as its tokens and the piece that they make. The end of a stream counts as a Frame of nothing, since it is the number that a frame of no bytes would begin with.
type Frame struct {
	Tokens []api.Token
	Piece  []byte
}

// Read gives the frames of a whole stream.
func Read(s []byte) ([]Frame, api.Errno) {
	if len(s) > api.MaxStream {
		return nil, api.ErrLong
	}
	r := bits.NewReader(s)
	e := readBegin(r)
	if e != api.OK {
		return nil, e
	}
	frames, e := readFrames(r)
	if e != api.OK {
		return nil, e
	}
	if !r.AtEnd() {
		return nil, api.ErrMore
	}
	return frames, api.OK
}

func readBegin(r *bits.Reader) api.Errno {
	for i := 0; i < len(magic); i++ {
		b, e := r.Byte()
		if e != api.OK {
			return e
		}
		if b != int(magic[i]) {
			return api.ErrMagic
		}
	}
	return api.OK
}

// readFrames reads up to the end of the stream, and that too.
func readFrames(r *bits.Reader) ([]Frame, api.Errno) {
	var frames []Frame
	short := false
	f, e := readFrame(r, short)
	for e == api.OK && len(f.Piece) > 0 {
		frames = append(frames, f)
		short = len(f.Piece) < api.Piece
		f, e = readFrame(r, short)
	}
	if e != api.OK {
		return nil, e
	}
	return frames, api.OK
}

// readFrame reads a frame, or the end. Behind a short frame there is no other.
func readFrame(r *bits.Reader, behindShort bool) (Frame, api.Errno) {
	v, e := r.Number(api.ErrFrame)
	if e != api.OK {
		return Frame{}, e
	}
	n := v - 1
	if n > api.Piece || n > 0 && behindShort {
		return Frame{}, api.ErrFrame
	}
	ts, e := tokens.Read(r, n)
	if e != api.OK {
		return Frame{}, e
	}
	e = r.Rest()
	if e != api.OK || n == 0 {
		return Frame{}, e
	}
	// What tokens.Read tells is right, so there is no error to ask for.
	piece, _ := tokens.Expand(ts)
	e = readSum(r, piece)
	if e != api.OK {
		return Frame{}, e
	}
	return Frame{Tokens: ts, Piece: piece}, api.OK
}

// readSum reads both bytes of a sum before it judges them: a stream that ends between them is too short, whatever the first one is.
func readSum(r *bits.Reader, piece []byte) api.Errno {
	low, e := r.Byte()
	if e != api.OK {
		return e
	}
	high, e := r.Byte()
	if e != api.OK {
		return e
	}
	if low+256*high != sum.Of(piece) {
		return api.ErrSum
	}
	return api.OK
}
