// Package tokens: what tokens make, what they cost, and their bits.
package tokens

import (
	"press/api"
	"press/bits"
)

const literalCost = 9

// fits tells whether t may stand behind tokens that made so many bytes (0 to Piece). Len is held against what is left, and never added first, since it may be any int.
func fits(t api.Token, made int) bool {
	left := api.Piece - made
	if t.Dist == 0 {
		return t.Len == 1 && left >= 1 && t.Byte >= 0 && t.Byte <= 255
	}
	if t.Dist < 1 || t.Dist > api.Window || t.Dist > made {
		return false
	}
	return t.Len >= 2 && t.Len <= left && t.Byte == 0
}

// Expand gives what the tokens make; false, if they are not right. However long the list is, it stops at the first token that goes beyond Piece.
func Expand(ts []api.Token) ([]byte, bool) {
	var made []byte
	for _, t := range ts {
		if !fits(t, len(made)) {
			return nil, false
		}
		if t.Dist == 0 {
			made = append(made, byte(t.Byte))
			continue
		}
		for i := 0; i < t.Len; i++ {
			b := made[len(made)-t.Dist]
			made = append(made, b)
		}
	}
	return made, true
}

// Cost tells how many bits the tokens have; false, if they are not right.
func Cost(ts []api.Token) (int, bool) {
	made := 0
	cost := 0
	for _, t := range ts {
		if !fits(t, made) {
			return 0, false
		}
		made += t.Len
		cost += CostOf(t)
	}
	return cost, true
}

// CostOf tells how many bits a token has, which is a literal or a copy.
func CostOf(t api.Token) int {
	if t.Dist == 0 {
		return literalCost
	}
	length := bits.NumberLength(t.Len - 1)
	distance := bits.NumberLength(t.Dist)
	return 1 + length + distance
}

// Write lays down the bits of tokens that are right.
func Write(w *bits.Writer, ts []api.Token) {
	for _, t := range ts {
		writeOne(w, t)
	}
}

func writeOne(w *bits.Writer, t api.Token) {
	if t.Dist == 0 {
		w.Bit(0)
		w.Byte(t.Byte)
		return
	}
	w.Bit(1)
	w.Number(t.Len - 1)
	w.Number(t.Dist)
}
