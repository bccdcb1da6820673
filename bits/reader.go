package bits

import "press/api"

// Reader takes bits out of bytes, which it does not change.
type Reader struct {
	source []byte
	at     int // how many bits have been read
}

// NewReader makes a Reader that begins at the first bit of source.
func NewReader(source []byte) *Reader {
	return &Reader{source: source}
}

// Bit reads one bit.
func (r *Reader) Bit() (int, api.Errno) {
	i := r.at / perByte
	if i >= len(r.source) {
		return 0, api.ErrShort
	}
	behind := perByte - 1 - r.at%perByte
	r.at++
	return int(r.source[i]) >> behind & 1, api.OK
}

// digits reads so many binary digits behind those of v.
func (r *Reader) digits(v, count int) (int, api.Errno) {
	for i := 0; i < count; i++ {
		b, e := r.Bit()
		if e != api.OK {
			return 0, e
		}
		v = v*2 + b
	}
	return v, api.OK
}

// Byte reads eight bits.
func (r *Reader) Byte() (int, api.Errno) {
	return r.digits(0, perByte)
}

// Number reads a number. What is wrong with one of too many noughts depends on what the number is for, so the caller says it.
func (r *Reader) Number(tooMany api.Errno) (int, api.Errno) {
	zeros := 0
	b, e := r.Bit()
	for e == api.OK && b == 0 {
		zeros++
		if zeros > api.MaxZeros {
			return 0, tooMany
		}
		b, e = r.Bit()
	}
	if e != api.OK {
		return 0, e
	}
	return r.digits(1, zeros)
}

// Rest reads what is left of the byte that was begun.
func (r *Reader) Rest() api.Errno {
	for r.at%perByte != 0 {
		b, e := r.Bit()
		if e != api.OK {
			return e
		}
		if b != 0 {
			return api.ErrPad
		}
	}
	return api.OK
}

// AtEnd tells whether there is no bit left.
func (r *Reader) AtEnd() bool {
	return r.BytesRead() >= len(r.source)
}

// BytesRead tells how many bytes have been read to their last bit.
func (r *Reader) BytesRead() int {
	return r.at / perByte
}
