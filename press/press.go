// Package press: bytes made as short as the format allows, and brought back: see DOC.md.
package press

import (
	"press/api"
	"press/best"
	"press/bits"
	"press/stream"
	"press/sum"
	"press/tokens"
)

// Sum tells the sum of some bytes (P3).
func Sum(data []byte) int { return sum.Of(data) }

// Expand gives what tokens make (P4).
func Expand(ts []api.Token) ([]byte, api.Errno) {
	made, right := tokens.Expand(ts)
	if !right {
		return nil, api.ErrTokens
	}
	return made, api.OK
}

// Cost tells how many bits tokens have (P4).
func Cost(ts []api.Token) (int, api.Errno) {
	cost, right := tokens.Cost(ts)
	if !right {
		return 0, api.ErrTokens
	}
	return cost, api.OK
}

// Pack writes the stream of these tokens (P5).
func Pack(pieces [][]api.Token) ([]byte, api.Errno) {
	if len(pieces) > api.MaxPieces {
		return nil, api.ErrLong
	}
	w := &bits.Writer{}
	stream.WriteBegin(w)
	for i, ts := range pieces {
		piece, right := tokens.Expand(ts)
		last := i == len(pieces)-1
		if !right || !mayBePiece(len(piece), last) {
			return nil, api.ErrTokens
		}
		stream.WriteFrame(w, piece, ts)
	}
	stream.WriteEnd(w)
	return w.Bytes(), api.OK
}

// mayBePiece tells whether data may have a piece of n bytes (at most Piece) at this place.
func mayBePiece(n int, last bool) bool {
	return n == api.Piece || last && n >= 1
}

// Unpack reads the tokens of a stream (P6).
func Unpack(s []byte) ([][]api.Token, api.Errno) {
	frames, e := stream.Read(s)
	if e != api.OK {
		return nil, e
	}
	var pieces [][]api.Token
	for _, f := range frames {
		pieces = append(pieces, f.Tokens)
	}
	return pieces, api.OK
}

// Decompress reads the data of a stream (P6).
func Decompress(s []byte) ([]byte, api.Errno) {
	frames, e := stream.Read(s)
	if e != api.OK {
		return nil, e
	}
	return dataOf(frames), api.OK
}

// dataOf lays the pieces of frames one behind the other, in memory of their own.
func dataOf(frames []stream.Frame) []byte {
	var data []byte
	for _, f := range frames {
		data = append(data, f.Piece...)
	}
	return data
}

// Parse finds tokens of the least cost (P7): the first of the best, which there always is.
func Parse(piece []byte) ([]api.Token, api.Errno) { return Nth(piece, 0) }

// Ways tells the least cost, and how many lists of tokens have it (P8).
func Ways(piece []byte) (int, int, api.Errno) {
	if len(piece) > api.Piece {
		return 0, 0, api.ErrLong
	}
	cost, ways := best.Ways(piece)
	return cost, ways, api.OK
}

// Nth finds one of the lists of least cost by its number (P8).
func Nth(piece []byte, k int) ([]api.Token, api.Errno) {
	if len(piece) > api.Piece {
		return nil, api.ErrLong
	}
	ts, there := best.Nth(piece, k)
	if !there {
		return nil, api.ErrArg
	}
	return ts, api.OK
}

// Compress writes a shortest stream, with the tokens that Parse finds (P9).
func Compress(data []byte) ([]byte, api.Errno) {
	if len(data) > api.MaxData {
		return nil, api.ErrLong
	}
	w := &bits.Writer{}
	stream.WriteBegin(w)
	for from := 0; from < len(data); from += api.Piece {
		to := from + api.Piece
		if to > len(data) {
			to = len(data)
		}
		writePiece(w, data[from:to])
	}
	stream.WriteEnd(w)
	return w.Bytes(), api.OK
}

// writePiece lays down the frame of a piece. It has at most Piece bytes, so Parse has no error to tell.
func writePiece(w *bits.Writer, piece []byte) {
	ts, _ := Parse(piece)
	stream.WriteFrame(w, piece, ts)
}
