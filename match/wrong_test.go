package match

import (
	"math"
	"slices"
	"testing"

	"tenement/api"
	"tenement/arena"
	"tenement/atoms"
	"tenement/build"
	"tenement/term"
	"tenement/word"
)

// refuses asks that x and y are not held against each other, either way round.
func (h *house) refuses(what string, x, y api.Word) {
	h.t.Helper()
	for _, c := range [][2]api.Word{{x, y}, {y, x}} {
		if got, ok := Compare(h.a, h.n, c[0], c[1], h.b); got != 0 || ok {
			h.t.Errorf("%s: Compare of %x, %x is %d, %v", what, c[0], c[1], got, ok)
		}
		if got, ok := Same(h.a, h.n, c[0], c[1], h.b); got || ok {
			h.t.Errorf("%s: Same of %x, %x is %v, %v", what, c[0], c[1], got, ok)
		}
	}
}

// refusesAll asks that w is held against nothing: on either side, on both; nor is what it is in: last and first, far behind what already tells which is less, and at a place that the walk would not come to.
func (h *house) refusesAll(what string, w api.Word) {
	h.t.Helper()
	if x, ok := build.Get(h.a, h.n, w, h.b); ok {
		h.t.Fatalf("%s: %x means %+v", what, w, x)
	}
	h.refuses(what+", itself", w, w)
	for _, good := range []api.Word{small(1), nilWord(), h.put(row(1, 2)), h.put(term.Bin([]byte("b"))), h.put(tuple())} {
		h.refuses(what, w, good)
		h.refuses(what+", alike ahead of it", h.tuple(small(1), w), h.tuple(small(1), good))
		h.refuses(what+", less ahead of it", h.tuple(small(1), w), h.tuple(small(2), good))
		h.refuses(what+", more ahead of it", h.cons(small(3), w), h.cons(small(2), good))
		h.refuses(what+", ahead of the rest", h.cons(w, small(1)), h.cons(good, small(2)))
		h.refuses(what+", of another length", h.tuple(small(1), w, small(1)), h.tuple(good))
		h.refuses(what+", of another kind", h.tuple(w), good)
	}
	in := h.tuple(small(1), h.cons(w, w))
	h.refuses(what+", in itself", in, in)
	h.refuses(what+", on both sides", h.tuple(small(1), w), h.tuple(small(2), w))
	h.refuses(what+", deep", h.doubled(6, w), h.doubled(7, small(1)))
}

// plain is a house with two atoms, and "hello" at handle 1.
func plain(t *testing.T) *house {
	h := newHouse(t)
	h.n.Put("a")
	h.n.Put("b")
	h.b.rows = [][]byte{[]byte("hello")}
	return h
}

// P10.1: words that mean nothing, and are no Ptrs.
func TestWrongWords(t *testing.T) {
	h := plain(t)
	for _, n := range []int64{-1 << 59, -1, 2, 1<<59 - 1} {
		h.refusesAll("no atom", atomOf(n))
	}
	for _, n := range []int64{-1 << 59, -1, 1<<30 + 1, 1<<59 - 1} {
		h.refusesAll("no Pid", word.Of(word.Pid, n))
		h.refusesAll("no Ref", word.Of(word.Ref, n))
	}
	for _, n := range []int64{-1 << 59, -1, 1, 1<<59 - 1} {
		h.refusesAll("Nil with a value", word.Of(word.Nil, n))
	}
	for tag := word.Head; tag < 16; tag++ {
		h.refusesAll("a tag that no term has", api.Word(tag))
		h.refusesAll("a tag that no term has", api.Word(1<<4|tag))
	}
	for _, n := range []int64{-1 << 59, -1, 1 << 50, 1<<59 - 1} {
		h.refusesAll("a Ptr to no place", ptr(n))
	}
}

// P10.1: objects that are not as build.Put writes them.
func TestWrongObjects(t *testing.T) {
	h := plain(t)
	for _, words := range [][]api.Word{
		{small(1)}, {nilWord()}, {ptr(0)}, {head(word.Tuple, 0, 1) | 1<<63},
		{head(word.Cons, 2, 2), 0, 0}, {head(word.Cons, 2, 4), 0, 0}, {head(word.Cons, 1, 3), 0, 0}, {head(word.Cons, 3, 3), 0, 0, 0}, {head(word.Cons, 0, 1)}, {minus(word.Cons, 2, 3), 0, 0},
		{head(word.Tuple, 0, 0)}, {head(word.Tuple, 0, 2)}, {head(word.Tuple, 2, 2), 0, 0}, {head(word.Tuple, 2, 4), 0, 0}, {minus(word.Tuple, 0, 1)}, {minus(word.Tuple, 1, 2), 0}, {head(word.Tuple, 1<<20-1, 2), 0},
		append([]api.Word{head(word.Tuple, 256, 257)}, make([]api.Word, 256)...),
		{head(word.Big, 0, 1)}, {head(word.Big, 1, 1), 5}, {head(word.Big, 2, 1), math.MaxUint32, 1<<27 - 1}, {minus(word.Big, 2, 1), 0, 1 << 27}, {head(word.Big, 3, 1), 0, 1 << 31, 0}, {head(word.Big, 3, 1), 1 << 32, 0, 1}, {head(word.Big, 2, 2), 0, 1 << 31},
		append([]api.Word{head(word.Big, 65, 1)}, slices.Repeat([]api.Word{1}, 65)...),
		{head(word.Bin, 3, 1), 1, 0, 6}, {head(word.Bin, 3, 1), 1, 1, 5}, {head(word.Bin, 3, 1), 1 << 30, 0, 1}, {head(word.Bin, 3, 1), 0, 0, 1}, {head(word.Bin, 3, 1), 1, 1 << 63, 0}, {head(word.Bin, 3, 1), 1, 0, 1 << 63}, {head(word.Bin, 3, 2), 1, 0, 5}, {minus(word.Bin, 3, 1), 1, 0, 5}, {head(word.Bin, 2, 1), 1, 0}, {head(word.Bin, 4, 1), 1, 0, 5, 0},
	} {
		h.refusesAll("a wrong object", h.object(words[0], words[1:]...))
	}
	h.refusesAll("in a list", h.cons(small(1), h.cons(small(2), h.object(head(word.Tuple, 1, 3), 0))))
}

// P10.1: objects that end just at the end of the used words, and such as do not.
func TestWrongEnds(t *testing.T) {
	for _, words := range [][]api.Word{
		{head(word.Cons, 2, 3), small(1), nilWord()},
		{head(word.Tuple, 1, 2), small(1)},
		{head(word.Big, 2, 1), 0, 1 << 31},
		{head(word.Bin, 3, 1), 1, 0, 2},
		{head(word.Tuple, 0, 1)},
	} {
		h := plain(t)
		w := h.object(words[0], words[1:]...)
		h.holds("all of it", w, w, 0)
		for n := range len(words) {
			h := plain(t)
			h.object(head(word.Tuple, 0, 1))
			h.a.Take(n)
			for i, x := range words[:n] {
				h.a.Set(1+i, x)
			}
			h.refuses("cut off", ptr(1), ptr(1))
			h.refuses("cut off", ptr(1), ptr(0))
			h.refuses("cut off", small(1), ptr(1))
		}
	}
}

// P10.1: circles, of whatever Tree, narrow and wide: alone, against themselves, against another.
func TestCircles(t *testing.T) {
	for _, tree := range []int{0, 1, 2, 3, 4, api.MaxTree, 1<<20 - 1} {
		h := plain(t)
		h.object(head(word.Tuple, 1, tree), ptr(0))
		h.refusesAll("a Tuple of itself", ptr(0))
		at := int64(h.a.Used())
		h.object(head(word.Cons, 2, tree), small(1), ptr(at))
		h.refusesAll("a Cons in its tail", ptr(at))
		at = int64(h.a.Used())
		h.object(head(word.Cons, 2, tree), ptr(at), small(1))
		h.refusesAll("a Cons in its head", ptr(at))
		h.refuses("two circles", ptr(0), ptr(at))
		at = int64(h.a.Used())
		h.object(head(word.Tuple, 1, tree), ptr(at+2))
		h.object(head(word.Tuple, 1, 4), ptr(at))
		h.refusesAll("two in each other", ptr(at))
		h.refuses("two in each other, against each other", ptr(at), ptr(at+2))
		at = int64(h.a.Used())
		h.object(head(word.Tuple, 255, tree), slices.Repeat([]api.Word{ptr(at)}, 255)...)
		h.refusesAll("a wide circle", ptr(at))
	}
}

// R7: an arena or a table that is nil; nobody who holds bytes, where there are bytes and where there are none.
func TestNilArguments(t *testing.T) {
	h := plain(t)
	list, bin, none := h.put(row(1)), h.put(term.Bin([]byte("b"))), h.put(term.Bin(nil))
	for _, w := range []api.Word{small(1), atomOf(0), nilWord(), list, bin, none} {
		for _, y := range []api.Word{w, small(1), list} {
			for _, x := range []house{{t, nil, h.n, h.b}, {t, h.a, nil, h.b}, {t, nil, nil, nil}} {
				x.refuses("a nil argument", w, y)
			}
		}
	}
	h.n.Put("c")
	for _, w := range []api.Word{bin, h.tuple(small(1), bin), h.cons(bin, nilWord())} {
		for _, y := range []api.Word{w, small(1), h.tuple(small(2), small(2))} {
			if c, ok := Compare(h.a, h.n, w, y, nil); c != 0 || ok {
				t.Errorf("nobody looks up: %d, %v", c, ok)
			}
			if c, ok := Same(h.a, h.n, y, w, nil); c || ok {
				t.Errorf("nobody looks up: %v, %v", c, ok)
			}
		}
	}
	if c, ok := Compare(h.a, h.n, h.tuple(none, small(1)), h.tuple(h.put(term.Bin(nil)), small(0)), nil); c != 1 || !ok {
		t.Errorf("there is nothing to look up: %d, %v", c, ok)
	}
	if c, ok := Same(&arena.Arena{}, &atoms.Table{}, small(2), small(2), nil); !c || !ok {
		t.Errorf("an arena and a table that New did not make: %v, %v", c, ok)
	}
}

// teller answers what it is told to.
type teller struct {
	bag
	tell func(handle, at, n int) ([]byte, bool)
}

func (x *teller) Look(handle, at, n int) ([]byte, bool) { return x.tell(handle, at, n) }

// R1: who holds bytes may panic, be a nil pointer, or answer another number of bytes: such Bins mean nothing.
func TestWhoHoldsBytesWrongly(t *testing.T) {
	h := plain(t)
	x, y := h.put(tuple(term.Int(1), term.Bin([]byte("b")))), h.put(tuple(term.Int(2), term.Bin([]byte("b"))))
	var nobody *bag
	for _, in := range []build.Bytes{
		nobody,
		&teller{tell: func(handle, at, n int) ([]byte, bool) { panic("look") }},
		&teller{tell: func(handle, at, n int) ([]byte, bool) { return nil, true }},
		&teller{tell: func(handle, at, n int) ([]byte, bool) { return make([]byte, n+1), true }},
		&teller{tell: func(handle, at, n int) ([]byte, bool) { return make([]byte, n), false }},
	} {
		for _, c := range [][2]api.Word{{x, y}, {x, x}, {y, small(1)}, {small(1), y}} {
			if got, ok := Compare(h.a, h.n, c[0], c[1], in); got != 0 || ok {
				t.Errorf("%d, %v", got, ok)
			}
			if got, ok := Same(h.a, h.n, c[0], c[1], in); got || ok {
				t.Errorf("%v, %v", got, ok)
			}
		}
	}
}

// R1: it ends, and does not panic, also where who holds bytes changes the heap when it is asked, at whatever Look: makes circles of it, other objects, other lengths, or gives words back.
func TestWhoChangesTheHeap(t *testing.T) {
	for when := range 9 {
		for how := range 9 {
			h := plain(t)
			bins := []api.Word{h.put(term.Bin([]byte("b"))), h.put(term.Bin([]byte("b")))}
			x := h.tuple(bins[0], h.tuple(bins[0], small(1)), h.cons(small(1), nilWord()))
			y := h.tuple(bins[1], h.tuple(bins[1], small(1)), h.cons(small(1), nilWord()))
			count := 0
			h.mean(x, y, &teller{tell: func(handle, at, n int) ([]byte, bool) {
				if count == when {
					h.change(how, x, y)
				}
				count++
				return []byte("b"), count != 20+how
			}})
		}
	}
}

// mean holds x against y by who may answer differently each time: then what is answered may be either, but nothing beside a false.
func (h *house) mean(x, y api.Word, in build.Bytes) {
	h.t.Helper()
	if c, ok := Compare(h.a, h.n, x, y, in); c < -1 || c > 1 || c != 0 && !ok {
		h.t.Errorf("%d, %v", c, ok)
	}
	if c, ok := Same(h.a, h.n, y, x, in); c && !ok {
		h.t.Errorf("%v, %v", c, ok)
	}
}

// change spoils the heap in one of several ways.
func (h *house) change(how int, x, y api.Word) {
	at, other := int(word.Value(x)), int(word.Value(y))
	set := func(behind int, v, w api.Word) {
		h.a.Set(at+behind, v)
		h.a.Set(other+behind, w)
	}
	switch how {
	case 0: // circles side by side, narrow and wide
		set(2, x, y)
	case 1:
		set(1, x, y)
		set(2, x, y)
		set(3, x, y)
	case 2:
		set(3, y, x)
	case 3: // objects with more words, with less
		set(0, head(word.Tuple, 1<<20-1, 3), head(word.Tuple, 1<<20-1, 3))
	case 4:
		set(0, head(word.Cons, 0, 1), head(word.Cons, 9, 1))
	case 5: // words that mean nothing
		set(2, 15, small(2))
	case 6:
		set(3, ptr(-1), ptr(1<<40))
	case 7:
		h.a.Cut(other+1, other+1)
	case 8:
		h.a.Cut(0, 0)
	}
}

// P10.1: where who holds bytes does not answer one Look of many, what is answered is as if they did, or false, and nothing that is wrong.
func TestWhoForgets(t *testing.T) {
	h := plain(t)
	x, y := h.put(tuple(term.Bin([]byte("b")), term.Int(2))), h.put(tuple(term.Bin([]byte("c")), term.Int(1)))
	for last := range 8 {
		for first := range last + 1 {
			looks := 0
			in := &teller{tell: func(handle, at, n int) ([]byte, bool) {
				looks++
				b, ok := h.b.Look(handle, at, n)
				return b, ok && (looks <= first || looks > last)
			}}
			for _, c := range []struct {
				x, y api.Word
				want int
			}{{x, y, -1}, {y, x, 1}} {
				looks = 0
				if got, ok := Compare(h.a, h.n, c.x, c.y, in); ok && got != c.want || !ok && got != 0 || ok && first < min(last, 2) || !ok && first == last {
					t.Errorf("not from %d to %d: %d, %v, want %d", first, last, got, ok, c.want)
				}
				looks = 0
				if same, ok := Same(h.a, h.n, c.x, c.y, in); same || ok && first < min(last, 2) || !ok && first == last {
					t.Errorf("not from %d to %d: %v, %v", first, last, same, ok)
				}
			}
		}
	}
}
