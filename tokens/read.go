package tokens

import (
	"press/api"
	"press/bits"
)

// Read reads tokens till they have made n bytes, which is at most Piece. They are right.
func Read(r *bits.Reader, n int) ([]api.Token, api.Errno) {
	var ts []api.Token
	for made := 0; made < n; {
		t, e := readOne(r, made, n-made)
		if e != api.OK {
			return nil, e
		}
		ts = append(ts, t)
		made += t.Len
	}
	return ts, api.OK
}

// readOne reads the token behind some that made so many bytes, where so many are left to make.
func readOne(r *bits.Reader, made, left int) (api.Token, api.Errno) {
	kind, e := r.Bit()
	if e != api.OK {
		return api.Token{}, e
	}
	if kind == 0 {
		return readLiteral(r)
	}
	return readCopy(r, made, left)
}

func readLiteral(r *bits.Reader) (api.Token, api.Errno) {
	b, e := r.Byte()
	if e != api.OK {
		return api.Token{}, e
	}
	return api.Token{Len: 1, Byte: b}, api.OK
}

func readCopy(r *bits.Reader, made, left int) (api.Token, api.Errno) {
	less, e := r.Number(api.ErrToken)
	if e != api.OK {
		return api.Token{}, e
	}
	// Len is judged ahead of Dist's first bit: a Len that is too much shows before the stream can prove too short.
	if less+1 > left {
		return api.Token{}, api.ErrToken
	}
	dist, e := r.Number(api.ErrToken)
	if e != api.OK {
		return api.Token{}, e
	}
	if dist > api.Window || dist > made {
		return api.Token{}, api.ErrToken
	}
	return api.Token{Len: less + 1, Dist: dist}, api.OK
}
