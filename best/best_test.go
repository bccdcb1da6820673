package best

import (
	"testing"

	"press/api"
)

func TestAdded(t *testing.T) {
	const most = api.MaxWays
	for _, c := range []struct{ a, b, want int }{
		{0, 0, 0}, {0, 1, 1}, {2, 3, 5}, {most - 2, 1, most - 1}, {most - 1, 1, most}, {1, most - 1, most}, {most / 2, most / 2, most},
		{most - 1, 2, most}, {2, most - 1, most}, {most, 0, most}, {0, most, most}, {most, 1, most}, {1, most, most}, {most, most, most},
	} {
		if got := added(c.a, c.b); got != c.want {
			t.Errorf("added(%d, %d) = %d, want %d", c.a, c.b, got, c.want)
		}
	}
}

// TestPickWhereCountsAreCut has a place with two tokens to begin with, and behind the second more lists than are counted.
func TestPickWhereCountsAreCut(t *testing.T) {
	first, second := api.Token{Len: 1, Byte: 7}, api.Token{Len: 2, Dist: 1}
	for _, c := range []struct {
		waysOfFirst, k int
		want           api.Token
		ahead          int
	}{
		{api.MaxWays, 0, first, 0}, {api.MaxWays, api.MaxWays - 1, first, 0},
		{api.MaxWays - 1, api.MaxWays - 2, first, 0}, {api.MaxWays - 1, api.MaxWays - 1, second, api.MaxWays - 1},
		{1, 0, first, 0}, {1, 1, second, 1}, {1, api.MaxWays - 1, second, 1},
	} {
		all := []rest{{first: []api.Token{first, second}}, {ways: c.waysOfFirst}, {ways: api.MaxWays}}
		got, ahead := pick(all, 0, c.k)
		if got != c.want || ahead != c.ahead {
			t.Errorf("pick of %d, behind %d ways: %v, %d, want %v, %d", c.k, c.waysOfFirst, got, ahead, c.want, c.ahead)
		}
	}
}

func TestChoices(t *testing.T) {
	got := choices([]byte("abababa"), 4)
	want := []api.Token{{Len: 1, Byte: 'a'}, {Len: 2, Dist: 2}, {Len: 2, Dist: 4}, {Len: 3, Dist: 2}, {Len: 3, Dist: 4}}
	if len(got) != len(want) {
		t.Fatalf("choices: %v, want %v", got, want)
	}
	for i := range want {
		if got[i] != want[i] {
			t.Errorf("choices: %v, want %v", got, want)
		}
	}
}
