package press_test

import (
	"bytes"
	"fmt"
	"reflect"
	"testing"

	"press/api"
	"press/press"
)

// answers is what the calls that take bytes of data tell of them; all that is beside an error shows in it.
type answers struct {
	parsed     []api.Token
	cost, ways int
	nth        []api.Token
	compressed []byte
	errors     [4]api.Errno
}

// callOnData asks every call that takes data, and tells of a result beside an error.
func callOnData(t *testing.T, data []byte, k int) answers {
	t.Helper()
	var a answers
	a.parsed, a.errors[0] = press.Parse(data)
	a.cost, a.ways, a.errors[1] = press.Ways(data)
	a.nth, a.errors[2] = press.Nth(data, k)
	a.compressed, a.errors[3] = press.Compress(data)
	if a.errors[0] != api.OK && len(a.parsed) != 0 || a.errors[1] != api.OK && (a.cost != 0 || a.ways != 0) || a.errors[2] != api.OK && len(a.nth) != 0 || a.errors[3] != api.OK && len(a.compressed) != 0 {
		t.Errorf("of %d bytes and %d: a result beside an error: %v", len(data), k, a)
	}
	return a
}

func TestP1DataOfEachLength(t *testing.T) {
	d := &dice{16}
	ks := []int{least, least + 1, -1, 0, 1, 2, 999999999, 1000000000, 1000000001, 1 << 32, most - 1, most}
	for n := 0; n <= 130; n++ {
		for _, k := range ks {
			a := callOnData(t, []byte(d.data(n)), k)
			long := n > 64
			if long != (a.errors[0] == api.ErrLong) || long != (a.errors[1] == api.ErrLong) || long != (a.errors[2] == api.ErrLong) || a.errors[3] != api.OK {
				t.Errorf("of %d bytes and %d: %v", n, k, a.errors)
			}
		}
	}
	for _, n := range []int{2047, 2048, 2049, 1 << 16, 1 << 25} {
		for _, k := range ks {
			callOnData(t, make([]byte, n), k)
		}
	}
}

func TestP1NilData(t *testing.T) {
	a := callOnData(t, nil, 0)
	if len(a.parsed) != 0 || a.cost != 0 || a.ways != 1 || len(a.nth) != 0 || string(a.compressed) != "PZ1\x80" || a.errors != [4]api.Errno{} {
		t.Errorf("of nil: %v", a)
	}
	if a := callOnData(t, nil, 1); a.errors != [4]api.Errno{2: api.ErrArg} {
		t.Errorf("of nil and 1: %v", a)
	}
}

func TestP2NoDataIsWritten(t *testing.T) {
	d := &dice{17}
	for i := 0; i < 400; i++ {
		n := i % 100
		data := d.data(n)
		all := append([]byte(data), data...)
		all = append(all, letters(100)...)
		kept := string(all)
		// What stands behind is the same again: a call that read it would find shorter tokens.
		got := callOnData(t, all[:n], 0)
		want := callOnData(t, []byte(data), 0)
		if string(all) != kept {
			t.Fatalf("the data %q was changed", data)
		}
		if !reflect.DeepEqual(got, want) {
			t.Fatalf("of %q with spare room: %v, want %v", data, got, want)
		}
	}
}

// copied gives the same answers in memory of their own.
func (a answers) copied() answers {
	a.parsed = append([]api.Token(nil), a.parsed...)
	a.nth = append([]api.Token(nil), a.nth...)
	a.compressed = append([]byte(nil), a.compressed...)
	return a
}

func TestP2ListsOfDataAreFresh(t *testing.T) {
	d := &dice{18}
	for i := 0; i < 300; i++ {
		data := []byte(d.data(1 + i%64))
		first := callOnData(t, data, 0)
		second := callOnData(t, data, 0)
		want := second.copied()
		// Parse and Nth may tell the same tokens, but not in the same memory.
		scribbleTokens(first.parsed)
		if !reflect.DeepEqual(first.nth, want.nth) {
			t.Fatalf("Parse and Nth of %q share memory", data)
		}
		scribbleTokens(first.nth)
		scribble(first.compressed)
		third := callOnData(t, data, 0)
		if !reflect.DeepEqual(second, want) || !reflect.DeepEqual(third, want) {
			t.Fatalf("of %q: %v and then %v, want %v", data, second, third, want)
		}
	}
	none := callOnData(t, nil, 0)
	scribble(none.compressed)
	scribbleTokens(none.parsed)
	if again := callOnData(t, nil, 0); string(again.compressed) != "PZ1\x80" || len(again.parsed) != 0 {
		t.Errorf("of nothing, again: %v", again)
	}
}

// TestP2SameEachTime asks for the same data behind calls on other data.
func TestP2SameEachTime(t *testing.T) {
	d := &dice{19}
	var data []string
	var first []string
	for i := 0; i < 100; i++ {
		data = append(data, d.data(i))
		first = append(first, fmt.Sprint(callOnData(t, []byte(data[i]), i)))
	}
	for _, c := range manyWays {
		callOnData(t, []byte(c.piece), 1)
	}
	for i := 99; i >= 0; i-- {
		if again := fmt.Sprint(callOnData(t, []byte(data[i]), i)); again != first[i] {
			t.Errorf("of %q: %s, and then %s", data[i], first[i], again)
		}
	}
}

func TestP2NoDataIsKept(t *testing.T) {
	data := []byte("abxbcyabc")
	a := callOnData(t, data, 1)
	want := a.copied()
	scribble(data)
	if !reflect.DeepEqual(a, want) {
		t.Errorf("an answer changed with what was handed in: %v, want %v", a, want)
	}
	copy(data, "ccccccccc")
	if s, e := press.Compress(data); !bytes.Equal(s, modelStream([][]api.Token{literals("c", copyOf(8, 1))})) || e != api.OK {
		t.Errorf("Compress of changed data = % x, %d", s, e)
	}
}
