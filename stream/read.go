package stream

import (
	"press/api"
	"press/bits"
	"press/sum"
	"press/tokens"
)

// Frame: one that was read, as its tokens and the piece that they make. The end of a stream counts as a Frame of nothing, since it is the number that a frame of no bytes would begin with.
type Frame struct {
	Tokens []api.Token
	Piece  []byte
}

// Stage tells what comes next at the place up to which a stream has been read. Its zero value is that of a stream of which nothing has been read.
type Stage int

const (
	Begin  Stage = 0 // what stands ahead of the first frame
	Middle Stage = 1 // a frame, or the end
	Last   Stage = 2 // the end: behind a short frame there is no other
	Ended  Stage = 3 // nothing
)

// Reading: how far some bytes of a stream could be read.
type Reading struct {
	Frames []Frame
	Stage  Stage // what comes behind what was read whole
	Used   int   // how many bytes were read whole: up to the end of the beginning, of a frame or of the stream
}

// Read gives the frames of a whole stream.
func Read(s []byte) ([]Frame, api.Errno) {
	if len(s) > api.MaxStream {
		return nil, api.ErrLong
	}
	got, e := ReadOn(s, Begin)
	if e != api.OK {
		return nil, e
	}
	return got.Frames, api.OK
}

// ReadOn reads the bytes s of a stream, of which all that stands ahead of them was read whole. Beside an error it tells what was read ahead of it, since that is the data which a Decoder gives in spite of the error.
func ReadOn(s []byte, from Stage) (Reading, api.Errno) {
	r := bits.NewReader(s)
	got := Reading{Stage: from}
	for got.Stage != Ended {
		f, next, e := readPart(r, got.Stage)
		if e != api.OK {
			return got, e
		}
		if len(f.Piece) > 0 {
			got.Frames = append(got.Frames, f)
		}
		got.Stage = next
		got.Used = r.BytesRead()
	}
	if !r.AtEnd() {
		return got, api.ErrMore
	}
	return got, api.OK
}

// readPart reads what comes at this stage, and tells the stage behind it. It reads a bit at least, so that there is an end to its calls.
func readPart(r *bits.Reader, stage Stage) (Frame, Stage, api.Errno) {
	if stage == Begin {
		e := readBegin(r)
		if e != api.OK {
			return Frame{}, Begin, e
		}
		return Frame{}, Middle, api.OK
	}
	f, e := readFrame(r, stage == Last)
	if e != api.OK {
		return Frame{}, Begin, e
	}
	return f, behind(f), api.OK
}

// behind tells the stage behind a frame, or behind the end.
func behind(f Frame) Stage {
	n := len(f.Piece)
	if n == 0 {
		return Ended
	}
	if n < api.Piece {
		return Last
	}
	return Middle
}

func readBegin(r *bits.Reader) api.Errno {
	for i := 0; i < len(magic); i++ {
		b, e := r.Byte()
		if e != api.OK {
			return e
		}
		if b != int(magic[i]) {
			return api.ErrMagic
		}
	}
	return api.OK
}

// readFrame reads a frame, or the end.
func readFrame(r *bits.Reader, behindShort bool) (Frame, api.Errno) {
	v, e := r.Number(api.ErrFrame)
	if e != api.OK {
		return Frame{}, e
	}
	n := v - 1
	if n > api.Piece || n > 0 && behindShort {
		return Frame{}, api.ErrFrame
	}
	ts, e := tokens.Read(r, n)
	if e != api.OK {
		return Frame{}, e
	}
	e = r.Rest()
	if e != api.OK || n == 0 {
		return Frame{}, e
	}
	// What tokens.Read tells is right, so there is no error to ask for.
	piece, _ := tokens.Expand(ts)
	e = readSum(r, piece)
	if e != api.OK {
		return Frame{}, e
	}
	return Frame{Tokens: ts, Piece: piece}, api.OK
}

// readSum reads both bytes of a sum before it judges them: a stream that ends between them is too short, whatever the first one is.
func readSum(r *bits.Reader, piece []byte) api.Errno {
	low, e := r.Byte()
	if e != api.OK {
		return e
	}
	high, e := r.Byte()
	if e != api.OK {
		return e
	}
	if low+256*high != sum.Of(piece) {
		return api.ErrSum
	}
	return api.OK
}
