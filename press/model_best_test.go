package press_test

import (
	"math/big"

	"press/api"
)

// modelChoices gives every token that may make what stands in a piece at some place, in the order of the document.
func modelChoices(piece string, at int) []api.Token {
	ts := literals(piece[at : at+1])
	for n := 2; at+n <= len(piece); n++ {
		for d := 1; d <= 32 && d <= at; d++ {
			if piece[at:at+n] == piece[at-d:at-d+n] {
				ts = append(ts, copyOf(n, d))
			}
		}
	}
	return ts
}

// modelAll gives every list of tokens that makes a piece from some place on, in the order of the document.
func modelAll(piece string, at int) [][]api.Token {
	if at == len(piece) {
		return [][]api.Token{nil}
	}
	var all [][]api.Token
	for _, t := range modelChoices(piece, at) {
		for _, behind := range modelAll(piece, at+t.Len) {
			all = append(all, append([]api.Token{t}, behind...))
		}
	}
	return all
}

// modelBest gives the least cost of a short piece, and every list that has it, in order: by looking at all lists.
func modelBest(piece string) (int, [][]api.Token) {
	least := 9 * len(piece)
	var best [][]api.Token
	for _, ts := range modelAll(piece, 0) {
		cost := len(modelBits(ts))
		if cost < least {
			least, best = cost, nil
		}
		if cost == least {
			best = append(best, ts)
		}
	}
	return least, best
}

// modelCounts: of each place of a piece the least cost of what stands from there on, and the number of lists that have it, however great it is.
type modelCounts struct {
	piece string
	cost  []int
	ways  []*big.Int
}

func newModelCounts(piece string) *modelCounts {
	n := len(piece)
	m := &modelCounts{piece, make([]int, n+1), make([]*big.Int, n+1)}
	m.ways[n] = big.NewInt(1)
	for at := n - 1; at >= 0; at-- {
		m.cost[at] = 9 * (n - at)
		for _, t := range modelChoices(piece, at) {
			m.cost[at] = min(m.cost[at], m.with(t, at))
		}
		m.ways[at] = new(big.Int)
		for _, t := range m.firsts(at) {
			m.ways[at].Add(m.ways[at], m.ways[at+t.Len])
		}
	}
	return m
}

// with tells the least cost from a place on with this token there.
func (m *modelCounts) with(t api.Token, at int) int {
	return len(modelBits([]api.Token{t})) + m.cost[at+t.Len]
}

// firsts gives the tokens with which a list of the least cost may go on at a place, in order.
func (m *modelCounts) firsts(at int) []api.Token {
	var ts []api.Token
	for _, t := range modelChoices(m.piece, at) {
		if m.with(t, at) == m.cost[at] {
			ts = append(ts, t)
		}
	}
	return ts
}

// counted gives the number of best lists as Ways is to tell it.
func (m *modelCounts) counted() int {
	if m.ways[0].Cmp(big.NewInt(1000000000)) > 0 {
		return 1000000000
	}
	return int(m.ways[0].Int64())
}

// ahead tells how many of the best lists go ahead of one of them; -1, if the list is not among them.
func (m *modelCounts) ahead(ts []api.Token) *big.Int {
	sum := new(big.Int)
	at := 0
	for _, t := range ts {
		found := false
		if at < len(m.piece) {
			for _, first := range m.firsts(at) {
				if first == t {
					found = true
					break
				}
				sum.Add(sum, m.ways[at+first.Len])
			}
		}
		if !found {
			return big.NewInt(-1)
		}
		at += t.Len
	}
	if at != len(m.piece) {
		return big.NewInt(-1)
	}
	return sum
}

// piece gives n bytes of few kinds, or such as copies of all sorts make.
func (d *dice) piece(n int) string {
	if d.below(3) == 0 {
		made, _ := modelMade(d.tokens(n))
		return made
	}
	kinds := 1 + d.below(8)
	var s []byte
	for len(s) < n {
		s = append(s, byte(250+d.below(kinds)))
	}
	return string(s)
}
