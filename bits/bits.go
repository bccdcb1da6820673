// Package bits: bits laid into bytes, the highest first, and taken out of them.
package bits

const perByte = 8

// Writer gathers bits. Its zero value has none.
type Writer struct {
	whole []byte
	begun int // the bits of the byte that is not full yet, as a number
	count int // how many bits begun has: 0 to 7
}

// Bit lays down one bit, 0 or 1.
func (w *Writer) Bit(b int) {
	w.begun = w.begun*2 + b
	w.count++
	if w.count == perByte {
		w.whole = append(w.whole, byte(w.begun))
		w.begun = 0
		w.count = 0
	}
}

// digits lays down the binary digits of v from that of the power of two top on.
func (w *Writer) digits(v, top int) {
	for p := top; p > 0; p /= 2 {
		w.Bit(v / p % 2)
	}
}

// Byte lays down eight bits; v is 0 to 255.
func (w *Writer) Byte(v int) {
	w.digits(v, 128)
}

// Number lays down a number, which is 1 or more.
func (w *Writer) Number(v int) {
	top := 1
	for top <= v/2 {
		w.Bit(0)
		top *= 2
	}
	w.digits(v, top)
}

// Fill lays down as many 0 as fill the byte.
func (w *Writer) Fill() {
	for w.count != 0 {
		w.Bit(0)
	}
}

// Bytes gives the full bytes. They are the Writer's own: who takes them has done with the Writer.
func (w *Writer) Bytes() []byte {
	return w.whole
}

// NumberLength tells how many bits the number v has, which is 1 or more.
func NumberLength(v int) int {
	length := 1
	for rest := v; rest > 1; rest /= 2 {
		length += 2
	}
	return length
}
