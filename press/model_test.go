package press_test

import (
	"fmt"
	"strconv"
	"strings"

	"press/api"
)

// What stands here is written anew from the document, as bits in strings, so that the program is not measured by itself.

const (
	most  = 1<<63 - 1
	least = -1 << 63
)

func literal(b int) api.Token { return api.Token{Len: 1, Byte: b} }

func copyOf(length, dist int) api.Token { return api.Token{Len: length, Dist: dist} }

// literals gives a literal of each byte of s, and more behind them.
func literals(s string, more ...api.Token) []api.Token {
	var ts []api.Token
	for i := 0; i < len(s); i++ {
		ts = append(ts, literal(int(s[i])))
	}
	return append(ts, more...)
}

// letters gives n bytes of which no two neighbours are the same.
func letters(n int) string {
	var s strings.Builder
	for i := 0; i < n; i++ {
		s.WriteByte(byte('A' + i%50))
	}
	return s.String()
}

func modelNumber(v int) string {
	digits := strconv.FormatInt(int64(v), 2)
	return strings.Repeat("0", len(digits)-1) + digits
}

func modelBits(ts []api.Token) string {
	s := ""
	for _, t := range ts {
		if t.Dist == 0 {
			s += "0" + fmt.Sprintf("%08b", t.Byte)
		} else {
			s += "1" + modelNumber(t.Len-1) + modelNumber(t.Dist)
		}
	}
	return s
}

// modelMade gives what tokens make, and whether they are right.
func modelMade(ts []api.Token) (string, bool) {
	s := ""
	for _, t := range ts {
		isLiteral := t.Dist == 0 && t.Len == 1 && 0 <= t.Byte && t.Byte <= 255
		isCopy := 1 <= t.Dist && t.Dist <= 32 && 2 <= t.Len && t.Byte == 0
		if !isLiteral && !isCopy || isCopy && t.Dist > len(s) || t.Len > 64 {
			return "", false
		}
		if isLiteral {
			s += string([]byte{byte(t.Byte)})
		} else {
			from := s[len(s)-t.Dist:]
			s += strings.Repeat(from, t.Len)[:t.Len]
		}
		if len(s) > 64 {
			return "", false
		}
	}
	return s, true
}

// modelSum counts without a modulus, which serves for short data.
func modelSum(data string) int {
	first, second := 0, 0
	for i := 0; i < len(data); i++ {
		first += int(data[i])
		second += first
	}
	return first%255 + 256*(second%255)
}

func modelStream(pieces [][]api.Token) []byte {
	s := []byte("PZ1")
	for _, ts := range pieces {
		piece, _ := modelMade(ts)
		bits := modelNumber(len(piece)+1) + modelBits(ts)
		bits += strings.Repeat("0", (8-len(bits)%8)%8)
		for ; bits != ""; bits = bits[8:] {
			v, _ := strconv.ParseUint(bits[:8], 2, 8)
			s = append(s, byte(v))
		}
		sum := modelSum(piece)
		s = append(s, byte(sum), byte(sum>>8))
	}
	return append(s, 128)
}

// dice gives numbers that look like chance and are the same in each run.
type dice struct{ state uint64 }

func (d *dice) below(n int) int {
	d.state = d.state*6364136223846793005 + 1442695040888963407
	return int(d.state>>33) % n
}

// tokens gives right tokens that make n bytes (0 to 64).
func (d *dice) tokens(n int) []api.Token {
	var ts []api.Token
	for made := 0; made < n; {
		t := literal(d.below(256))
		if made > 0 && n-made >= 2 && d.below(3) > 0 {
			t = copyOf(2+d.below(n-made-1), 1+d.below(min(made, 32)))
			if d.below(2) == 0 {
				t.Len = min(t.Len, 4)
			}
		}
		ts = append(ts, t)
		made += t.Len
	}
	return ts
}
