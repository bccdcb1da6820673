// Package best: the tokens that make a piece at the least cost.
package best

import (
	"press/api"
	"press/tokens"
)

// rest tells of the tokens that make a piece from some place on to its end.
type rest struct {
	cost  int         // the least that such tokens have
	ways  int         // how many lists of them have it; MaxWays, if there are more
	first []api.Token // what these lists begin with, in the order of P8
}

// Ways tells the least cost of tokens that make the piece, and how many lists of them have it; but MaxWays, if there are more.
func Ways(piece []byte) (int, int) {
	all := rests(piece)
	return all[0].cost, all[0].ways
}

// Nth gives the one of the best lists ahead of which there are k others; false, if k is below 0 or not below what Ways counts. At each place there is something to pick, and be it the literal, so it comes to the end of the piece.
func Nth(piece []byte, k int) ([]api.Token, bool) {
	all := rests(piece)
	if k < 0 || k >= all[0].ways {
		return nil, false
	}
	var ts []api.Token
	for at := 0; at < len(piece); {
		t, ahead := pick(all, at, k)
		ts = append(ts, t)
		k -= ahead
		at += t.Len
	}
	return ts, true
}

// pick gives what the k-th of the best lists from this place on begins with, and how many of them begin with something that goes ahead of it. A count that was cut to MaxWays does no harm: k is below it.
func pick(all []rest, at, k int) (api.Token, int) {
	var picked api.Token
	ahead := 0
	next := 0
	for _, t := range all[at].first {
		if next > k {
			break
		}
		picked = t
		ahead = next
		next += all[at+t.Len].ways
	}
	return picked, ahead
}

// rests tells of each place of the piece, and of its end, where nothing is left to make: there is one list of no tokens.
func rests(piece []byte) []rest {
	all := make([]rest, len(piece)+1)
	all[len(piece)].ways = 1
	for at := len(piece) - 1; at >= 0; at-- {
		r := restAt(piece, at, all)
		all[at] = r
	}
	return all
}

// restAt tells of one place, when all tells of those behind it.
func restAt(piece []byte, at int, all []rest) rest {
	var r rest
	for _, t := range choices(piece, at) {
		behind := all[at+t.Len]
		cost := tokens.CostOf(t) + behind.cost
		if len(r.first) == 0 || cost < r.cost {
			r = rest{cost: cost}
		}
		if cost == r.cost {
			r.ways = added(r.ways, behind.ways)
			r.first = append(r.first, t)
		}
	}
	return r
}

// added gives the sum of two counts, cut to MaxWays as they are.
func added(a, b int) int {
	if a > api.MaxWays-b {
		return api.MaxWays
	}
	return a + b
}

// choices gives every token that may stand at this place, in the order of P8. The literal always may.
func choices(piece []byte, at int) []api.Token {
	ts := []api.Token{{Len: 1, Byte: int(piece[at])}}
	var reach [api.Window + 1]int
	farthest := at
	if farthest > api.Window {
		farthest = api.Window
	}
	for dist := 1; dist <= farthest; dist++ {
		reach[dist] = same(piece, at, dist)
	}
	for length := 2; length <= len(piece)-at; length++ {
		for dist := 1; dist <= farthest; dist++ {
			if length <= reach[dist] {
				ts = append(ts, api.Token{Len: length, Dist: dist})
			}
		}
	}
	return ts
}

// same tells how many bytes from this place on are those that stand dist (at most at) ahead of them.
func same(piece []byte, at, dist int) int {
	n := 0
	for at+n < len(piece) && piece[at+n] == piece[at+n-dist] {
		n++
	}
	return n
}
