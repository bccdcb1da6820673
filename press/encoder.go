package press

import (
	"press/api"
	"press/bits"
	"press/stream"
)

// Encoder takes data piece by piece.
type Encoder struct {
	open  bool            // false in the zero value: what the caller made is closed
	begun bool            // whether the stream's beginning came out
	taken int             // how many bytes of data have been taken
	piece [api.Piece]byte // at its beginning the data behind the last full piece
}

// NewEncoder makes an Encoder (P10).
func NewEncoder() *Encoder { return &Encoder{open: true} }

// Write takes data, and gives what is certain of the stream (P10).
func (x *Encoder) Write(p []byte) ([]byte, api.Errno) {
	if x == nil || !x.open {
		return nil, api.ErrClosed
	}
	if len(p) > api.MaxData-x.taken {
		return nil, api.ErrLong
	}
	w := &bits.Writer{}
	x.begin(w)
	for _, b := range p {
		x.take(w, b)
	}
	return w.Bytes(), api.OK
}

// Close gives the rest of the stream (P10).
func (x *Encoder) Close() ([]byte, api.Errno) {
	if x == nil || !x.open {
		return nil, api.ErrClosed
	}
	w := &bits.Writer{}
	x.begin(w)
	left := x.taken % api.Piece
	if left > 0 {
		writePiece(w, x.piece[:left])
	}
	stream.WriteEnd(w)
	*x = Encoder{}
	return w.Bytes(), api.OK
}

// begin lays down the stream's beginning, the first time.
func (x *Encoder) begin(w *bits.Writer) {
	if !x.begun {
		stream.WriteBegin(w)
		x.begun = true
	}
}

// take takes one byte of data, and lays down the frame of the piece that it fills.
func (x *Encoder) take(w *bits.Writer, b byte) {
	x.piece[x.taken%api.Piece] = b
	x.taken++
	if x.taken%api.Piece == 0 {
		writePiece(w, x.piece[:])
	}
}
