package press_test

import (
	"fmt"
	"strconv"
	"strings"

	"press/api"
)

// What stands here is written anew from the document, as bits in strings, so that the program is not measured by itself.

const (
	most  = 1<<63 - 1
	least = -1 << 63
)

func literal(b int) api.Token { return api.Token{Len: 1, Byte: b} }

func copyOf(length, dist int) api.Token { return api.Token{Len: length, Dist: dist} }

// literals gives a literal of each byte of s, and more behind them.
func literals(s string, more ...api.Token) []api.Token {
	var ts []api.Token
	for i := 0; i < len(s); i++ {
		ts = append(ts, literal(int(s[i])))
	}
	return append(ts, more...)
}

// letters gives n bytes of which no two neighbours are the same.
func letters(n int) string {
	var s strings.Builder
	for i := 0; i < n; i++ {
		s.WriteByte(byte('A' + i%50))
	}
	return s.String()
}

func modelNumber(v int) string {
	digits := strconv.FormatInt(int64(v), 2)
	return strings.Repeat("0", len(digits)-1) + digits
}

func modelBits(ts []api.Token) string {
	s := ""
	for _, t := range ts {
		if t.Dist == 0 {
			s += "0" + fmt.Sprintf("%08b", t.Byte)
		} else {
			s += "1" + modelNumber(t.Len-1) + modelNumber(t.Dist)
		}
	}
	return s
}

// modelMade gives what tokens make, and whether they are right.
func modelMade(ts []api.Token) (string, bool) {
	s := ""
	for _, t := range ts {
		isLiteral := t.Dist == 0 && t.Len == 1 && 0 <= t.Byte && t.Byte <= 255
		isCopy := 1 <= t.Dist && t.Dist <= 32 && 2 <= t.Len && t.Byte == 0
		if !isLiteral && !isCopy || isCopy && t.Dist > len(s) || t.Len > 64 {
			return "", false
		}
		if isLiteral {
			s += string([]byte{byte(t.Byte)})
		} else {
			from := s[len(s)-t.Dist:]
			s += strings.Repeat(from, t.Len)[:t.Len]
		}
		if len(s) > 64 {
			return "", false
		}
	}
	return s, true
}

// modelSum counts without a modulus, which serves for short data.
func modelSum(data string) int {
	first, second := 0, 0
	for i := 0; i < len(data); i++ {
		first += int(data[i])
		second += first
	}
	return first%255 + 256*(second%255)
}

func modelStream(pieces [][]api.Token) []byte {
	s := []byte("PZ1")
	for _, ts := range pieces {
		piece, _ := modelMade(ts)
		bits := modelNumber(len(piece)+1) + modelBits(ts)
		bits += strings.Repeat("0", (8-len(bits)%8)%8)
		for ; bits != ""; bits = bits[8:] {
			v, _ := strconv.ParseUint(bits[:8], 2, 8)
			s = append(s, byte(v))
		}
		sum := modelSum(piece)
		s = append(s, byte(sum), byte(sum>>8))
	}
	return append(s, 128)
}

// modelReader takes a stream as a string of bits; what is wrong with it is thrown.
type modelReader struct{ bits string }

func (m *modelReader) take(n int) int {
	v := 0
	for ; n > 0; n-- {
		if m.bits == "" {
			panic(api.ErrShort)
		}
		v = 2*v + int(m.bits[0]-'0')
		m.bits = m.bits[1:]
	}
	return v
}

func (m *modelReader) number(tooMany api.Errno) int {
	for zeros := 0; ; zeros++ {
		if zeros == 7 {
			panic(tooMany)
		}
		if m.take(1) == 1 {
			return 1<<zeros + m.take(zeros)
		}
	}
}

func (m *modelReader) pad() {
	for len(m.bits)%8 != 0 {
		wrongIf(m.take(1) == 1, api.ErrPad)
	}
}

func wrongIf(wrong bool, e api.Errno) {
	if wrong {
		panic(e)
	}
}

// frame reads the tokens of n bytes, and what stands behind them.
func (m *modelReader) frame(n int) ([]api.Token, string) {
	var ts []api.Token
	made := ""
	for len(made) < n {
		if m.take(1) == 0 {
			ts = append(ts, literal(m.take(8)))
		} else {
			length := m.number(api.ErrToken) + 1
			wrongIf(length > n-len(made), api.ErrToken)
			dist := m.number(api.ErrToken)
			wrongIf(dist > 32 || dist > len(made), api.ErrToken)
			ts = append(ts, copyOf(length, dist))
		}
		made, _ = modelMade(ts)
	}
	m.pad()
	sum := m.take(8)
	sum += m.take(8) << 8
	wrongIf(sum != modelSum(made), api.ErrSum)
	return ts, made
}

// modelRead reads a stream.
func modelRead(s []byte) ([][]api.Token, string, api.Errno) {
	pieces, data, e := modelReadFar(s)
	if e != api.OK {
		return nil, "", e
	}
	return pieces, data, e
}

// modelReadFar reads a stream as far as it can, and gives what it read ahead of an error too.
func modelReadFar(s []byte) (pieces [][]api.Token, data string, e api.Errno) {
	if len(s) > 4096 {
		return nil, "", api.ErrLong
	}
	defer func() {
		if thrown := recover(); thrown != nil {
			e = thrown.(api.Errno)
		}
	}()
	var all strings.Builder
	for _, b := range s {
		fmt.Fprintf(&all, "%08b", b)
	}
	m := &modelReader{all.String()}
	for _, b := range []int{'P', 'Z', '1'} {
		wrongIf(m.take(8) != b, api.ErrMagic)
	}
	for last := 64; ; {
		n := m.number(api.ErrFrame) - 1
		if n == 0 {
			m.pad()
			wrongIf(m.bits != "", api.ErrMore)
			return pieces, data, api.OK
		}
		wrongIf(n > 64 || last < 64, api.ErrFrame)
		ts, made := m.frame(n)
		pieces, data, last = append(pieces, ts), data+made, n
	}
}

// dice gives numbers that look like chance and are the same in each run.
type dice struct{ state uint64 }

func (d *dice) below(n int) int {
	d.state = d.state*6364136223846793005 + 1442695040888963407
	return int(d.state>>33) % n
}

// pieces gives the tokens of up to four pieces.
func (d *dice) pieces() [][]api.Token {
	var pieces [][]api.Token
	for n := d.below(4); n > 0; n-- {
		pieces = append(pieces, d.tokens(64))
	}
	if d.below(8) > 0 {
		pieces = append(pieces, d.tokens(1+d.below(64)))
	}
	return pieces
}

// tokens gives right tokens that make n bytes (0 to 64).
func (d *dice) tokens(n int) []api.Token {
	var ts []api.Token
	for made := 0; made < n; {
		t := literal(d.below(256))
		if made > 0 && n-made >= 2 && d.below(3) > 0 {
			t = copyOf(2+d.below(n-made-1), 1+d.below(min(made, 32)))
			if d.below(2) == 0 {
				t.Len = min(t.Len, 4)
			}
		}
		ts = append(ts, t)
		made += t.Len
	}
	return ts
}
