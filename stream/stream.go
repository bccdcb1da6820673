// Package stream: the parts of a stream, as they stand one behind the other.
package stream

import (
	"press/api"
	"press/bits"
	"press/sum"
	"press/tokens"
)

const magic = "PZ1"

// WriteBegin lays down what stands ahead of the first frame.
func WriteBegin(w *bits.Writer) {
	for i := 0; i < len(magic); i++ {
		w.Byte(int(magic[i]))
	}
}

// WriteFrame lays down the frame of a piece with these tokens, which make it.
func WriteFrame(w *bits.Writer, piece []byte, ts []api.Token) {
	w.Number(len(piece) + 1)
	tokens.Write(w, ts)
	w.Fill()
	s := sum.Of(piece)
	w.Byte(s % 256)
	w.Byte(s / 256)
}

// WriteEnd lays down what stands behind the last frame.
func WriteEnd(w *bits.Writer) {
	w.Number(1)
	w.Fill()
}
