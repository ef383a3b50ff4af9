package match

import (
	"bytes"
	"slices"
	"testing"

	"tenement/api"
	"tenement/term"
	"tenement/word"
)

// picture is all that can be told of a house.
type picture struct {
	words      []api.Word
	used, size int
	names      []string
	rows       [][]byte
	asked      [2]int
}

func (h *house) picture() picture {
	p := picture{words: h.a.Words(), used: h.a.Used(), size: h.a.Size(), asked: [2]int{h.b.grants, h.b.drops}}
	for i := range h.n.Len() {
		name, _ := h.n.Name(i)
		p.names = append(p.names, name)
	}
	for _, row := range h.b.rows {
		p.rows = append(p.rows, slices.Clone(row[:cap(row)]))
	}
	return p
}

func (p picture) is(q picture) bool {
	return slices.Equal(p.words, q.words) && p.used == q.used && p.size == q.size && slices.Equal(p.names, q.names) && slices.EqualFunc(p.rows, q.rows, bytes.Equal) && p.asked == q.asked
}

// R3, R4: nothing that was handed in is changed, whatever is answered: no word, no name, no bytes, the room behind those neither; nothing is granted or dropped.
func TestNothingIsChanged(t *testing.T) {
	h := newHouse(t)
	h.b.rows = [][]byte{append([]byte("hello"), "spare"...)[:5]}
	h.n.Put("b")
	words := []api.Word{small(1), atomOf(0), atomOf(9), nilWord(), 15, ptr(1 << 19), ptr(-1)}
	for _, group := range ofKinds() {
		for _, x := range group[:1] {
			words = append(words, h.put(x), h.put(tuple(x, x)), h.put(cons(x, term.Int(1))))
		}
	}
	words = append(words, h.object(head(word.Bin, 3, 1), 1, 1, 3), h.object(head(word.Bin, 3, 1), 1, 1, 99), h.put(row(1, 2)), h.put(row(1, 3)))
	words = append(words, h.tuple(words[len(words)-1], words[len(words)-4]), h.tuple(small(2), 15), h.doubled(17, nilWord()))
	was := h.picture()
	for _, x := range words {
		for _, y := range words {
			Compare(h.a, h.n, x, y, h.b)
			Same(h.a, h.n, x, y, h.b)
		}
	}
	if !h.picture().is(was) {
		t.Error("something is changed")
	}
}

// R5: what is answered hangs on the arguments and on what the heap holds then, not on what was asked ahead.
func TestAnswersHangOnArguments(t *testing.T) {
	h := newHouse(t)
	x, y := h.put(tuple(term.Int(1), row(5), row(6))), h.put(tuple(term.Int(2), row(7), row(4)))
	other := newHouse(t)
	one, two := other.put(term.Tuple(term.Atom("a"), term.Bin([]byte("b")))), other.put(term.Tuple(term.Atom("a"), term.Bin([]byte("c"))))
	for range 3 {
		h.holds("one house", x, y, -1)
		other.holds("another", one, two, -1)
		h.refuses("one house", x, 15)
		h.holds("one house", x, x, 0)
	}
	h.a.Set(int(word.Value(x))+1, small(2))
	h.holds("another item", x, y, -1)
	h.a.Set(int(word.Value(x))+1, small(3))
	h.holds("another item", x, y, 1)
	other.b.rows[0] = []byte("d")
	other.holds("other bytes", one, two, 1)
	other.b.rows[0] = nil
	other.refuses("no bytes", one, two)
}

// R4: bytes that are looked up are not kept beyond the next Look: who holds them may answer all in one place.
func TestOnePlaceForAllBytes(t *testing.T) {
	h := newHouse(t)
	place := make([]byte, 3)
	in := &teller{tell: func(handle, at, n int) ([]byte, bool) {
		clear(place)
		return append(place[:0], h.b.rows[handle-1][at:at+n]...), true
	}}
	x, y, z := h.put(tuple(term.Bin([]byte("abc")), term.Bin([]byte("x")))), h.put(tuple(term.Bin([]byte("abc")), term.Bin([]byte("x")))), h.put(tuple(term.Bin([]byte("abd")), term.Bin([]byte("a"))))
	for _, c := range []struct {
		x, y api.Word
		want int
	}{{x, y, 0}, {x, z, -1}, {z, x, 1}} {
		if got, ok := Compare(h.a, h.n, c.x, c.y, in); got != c.want || !ok {
			t.Errorf("Compare: %d, %v, want %d", got, ok, c.want)
		}
		if got, ok := Same(h.a, h.n, c.x, c.y, in); got != (c.want == 0) || !ok {
			t.Errorf("Same: %v, %v, want %d", got, ok, c.want)
		}
	}
}
