package match

import (
	"cmp"
	"math"
	"slices"
	"strings"
	"testing"

	"tenement/api"
	"tenement/arena"
	"tenement/atoms"
	"tenement/big"
	"tenement/build"
	"tenement/term"
	"tenement/word"
)

// bag holds bytes by handles, from 1 on, and counts what it is asked.
type bag struct {
	rows                 [][]byte
	grants, looks, drops int
}

func (b *bag) Grant(x []byte) (int, bool) {
	b.grants++
	b.rows = append(b.rows, slices.Clone(x))
	return len(b.rows), true
}

func (b *bag) Look(handle, at, n int) ([]byte, bool) {
	b.looks++
	if handle < 1 || handle > len(b.rows) || at < 0 || n < 0 || at > len(b.rows[handle-1]) || n > len(b.rows[handle-1])-at {
		return []byte("x"), false
	}
	return b.rows[handle-1][at : at+n], true
}

func (b *bag) Drop(handle int) bool {
	b.drops++
	return true
}

// house is a heap with all that belongs to it.
type house struct {
	t *testing.T
	a *arena.Arena
	n *atoms.Table
	b *bag
}

func newHouse(t *testing.T) *house {
	return &house{t, arena.New(api.MaxWords), atoms.New(), &bag{}}
}

// put adds a term.
func (h *house) put(x api.Term) api.Word {
	h.t.Helper()
	w, e := build.Put(h.a, h.n, x, h.b)
	if e != api.OK {
		h.t.Fatalf("%+v is not put: %v", x, e)
	}
	return w
}

// object adds an object as it is told.
func (h *house) object(head api.Word, words ...api.Word) api.Word {
	h.t.Helper()
	at, ok := h.a.Take(1 + len(words))
	if !ok {
		h.t.Fatal("the heap is full")
	}
	for i, w := range append([]api.Word{head}, words...) {
		h.a.Set(at+i, w)
	}
	return ptr(int64(at))
}

// tuple adds a Tuple of these words.
func (h *house) tuple(l ...api.Word) api.Word {
	h.t.Helper()
	return h.object(head(word.Tuple, len(l), h.tree(l)), l...)
}

// cons adds a Cons of these two words.
func (h *house) cons(l ...api.Word) api.Word {
	h.t.Helper()
	return h.object(head(word.Cons, 2, h.tree(l)), l...)
}

func (h *house) tree(l []api.Word) int {
	n := 1
	for _, w := range l {
		n += build.Tree(h.a, w)
	}
	return n
}

// holds asks that x against y is want, both ways round, and Same just if that is 0.
func (h *house) holds(what string, x, y api.Word, want int) {
	h.t.Helper()
	for _, c := range []struct {
		x, y api.Word
		want int
	}{{x, y, want}, {y, x, -want}} {
		if got, ok := Compare(h.a, h.n, c.x, c.y, h.b); got != c.want || !ok {
			h.t.Errorf("%s: Compare of %x, %x is %d, %v, want %d", what, c.x, c.y, got, ok, c.want)
		}
		if got, ok := Same(h.a, h.n, c.x, c.y, h.b); got != (want == 0) || !ok {
			h.t.Errorf("%s: Same of %x, %x is %v, %v, want %v", what, c.x, c.y, got, ok, want == 0)
		}
	}
}

// rising asks that each of these is below those behind it, and the Same as itself at the same place and at another.
func rising(t *testing.T, l []api.Term) {
	t.Helper()
	h := newHouse(t)
	var words, others []api.Word
	for _, x := range l {
		words = append(words, h.put(x))
	}
	for i := range l {
		others = append(others, h.put(l[len(l)-1-i]))
	}
	slices.Reverse(others)
	for i, x := range words {
		h.holds("a word and itself", x, x, 0)
		for j, y := range others {
			h.holds("terms", x, y, cmp.Compare(i, j))
		}
	}
}

// head is a header's word.
func head(kind, size, tree int) api.Word {
	return word.Make(word.Header{Kind: kind, Size: size, Tree: tree})
}

// minus is the same with the sign set.
func minus(kind, size, tree int) api.Word {
	return word.Make(word.Header{Kind: kind, Size: size, Tree: tree, Neg: true})
}

func small(n int64) api.Word  { return word.Of(word.Small, n) }
func ptr(n int64) api.Word    { return word.Of(word.Ptr, n) }
func atomOf(n int64) api.Word { return word.Of(word.Atom, n) }
func nilWord() api.Word       { return word.Of(word.Nil, 0) }

// limbs are n of them, all of that worth.
func limbs(n int, worth uint32) []uint32 {
	return slices.Repeat([]uint32{worth}, n)
}

func number(neg bool, d ...uint32) api.Term { return term.Num(big.Num{Neg: neg, D: d}) }

// with is d with another limb at that place, counted from the lowest.
func with(d []uint32, at int, worth uint32) []uint32 {
	d = slices.Clone(d)
	d[at] = worth
	return d
}

func ints(l ...int64) []api.Term {
	all := make([]api.Term, len(l))
	for i, n := range l {
		all[i] = term.Int(n)
	}
	return all
}

// row is a list of these numbers.
func row(l ...int64) api.Term { return term.List(ints(l...)...) }

// tuple and cons are on the items as they are, so that deep ones are not copied at each step.
func tuple(l ...api.Term) api.Term { return api.Term{Kind: api.Tuple, L: l} }

func cons(l ...api.Term) api.Term { return api.Term{Kind: api.Cons, L: l} }

// nested is x in that many Tuples of one item each.
func nested(deep int, x api.Term) api.Term {
	for range deep {
		x = tuple(x)
	}
	return x
}

// leaning is x in that many Conses' heads.
func leaning(deep int, x api.Term) api.Term {
	for range deep {
		x = cons(x, term.Nil())
	}
	return x
}

// chain is a list of that many noughts with that end.
func chain(n int, end api.Term) api.Term {
	for range n {
		end = cons(term.Int(0), end)
	}
	return end
}

// The chapter's example: two tuples {a, b} at two places.
func TestExample(t *testing.T) {
	h := newHouse(t)
	x := h.put(term.Tuple(term.Atom("a"), term.Atom("b")))
	y := h.put(term.Tuple(term.Atom("a"), term.Atom("b")))
	if x == y {
		t.Fatal("one place")
	}
	if same, ok := Same(h.a, h.n, x, y, nil); !same || !ok {
		t.Errorf("%v, %v", same, ok)
	}
}

// ofKinds are a low one, where there is one, and a high one of each kind, the kinds in api's order.
func ofKinds() [][]api.Term {
	bin := slices.Repeat([]byte{255}, api.MaxBin)
	return [][]api.Term{
		{number(true, limbs(64, math.MaxUint32)...), term.Int(-1 << 59), term.Int(0), term.Int(1<<59 - 1), number(false, limbs(64, math.MaxUint32)...)},
		{term.Atom(""), term.Atom(strings.Repeat("\U0010ffff", api.MaxAtom))},
		{term.Ref(0), term.Ref(1 << 30)},
		{term.Pid(0), term.Pid(1 << 30)},
		{term.Tuple(), term.Tuple(slices.Repeat([]api.Term{term.Bin(bin)}, api.MaxTuple)...)},
		{term.Nil()},
		{term.Cons(term.Int(-1), term.Int(-1)), term.Cons(term.Bin(bin), term.Bin(bin))},
		{term.Bin(nil), term.Bin(bin)},
	}
}

// P10.1: each kind against each other kind, in api's order, whatever the terms hold; alone and as parts.
func TestKinds(t *testing.T) {
	h := newHouse(t)
	all := ofKinds()
	if len(all) != api.Bin+1 {
		t.Fatal("not all kinds")
	}
	words := make([][]api.Word, len(all))
	for i, group := range all {
		for _, x := range group {
			if x.Kind != i {
				t.Fatalf("kind %d is not at its place", x.Kind)
			}
			words[i] = append(words[i], h.put(x))
		}
		rising(t, group)
	}
	for i, xs := range words {
		for j, ys := range words {
			if i == j {
				continue
			}
			for _, x := range xs {
				for _, y := range ys {
					want := cmp.Compare(i, j)
					h.holds("kinds", x, y, want)
					h.holds("kinds of items", h.tuple(x, y), h.tuple(y, x), want)
					h.holds("kinds of heads", h.cons(x, y), h.cons(y, x), want)
					h.holds("kinds of tails", h.cons(y, x), h.cons(y, y), want)
				}
			}
		}
	}
}

// P10.1: Ints by number, in a word and of many limbs, of either sign.
func TestInts(t *testing.T) {
	const most = math.MaxUint32
	fives := limbs(64, 5)
	up := [][]uint32{
		{1}, {most}, {0, 1}, {most, 1<<27 - 1}, {0, 1 << 27}, {1, 1 << 27}, {0, 1<<27 + 1}, {most, most}, {0, 0, 1}, {0, most, 1}, {most, 0, 2}, limbs(63, most),
		with(fives, 63, 4), with(fives, 0, 4), fives, with(fives, 0, 6), with(fives, 1, 6), with(fives, 63, 6), limbs(64, most),
	}
	var all []api.Term
	for _, d := range slices.Backward(up) {
		all = append(all, number(true, d...))
	}
	all = append(all, term.Int(0))
	for _, d := range up {
		all = append(all, number(false, d...))
	}
	rising(t, all)
	rising(t, ints(math.MinInt64, -1<<59-1, -1<<59, -1<<59+1, -1<<32, -1, 0, 1, 1<<32, 1<<59-2, 1<<59-1, 1<<59, 1<<59+1, math.MaxInt64))
}

// P10.1: Atoms by their signs, whatever their numbers are: put rising and falling.
func TestAtoms(t *testing.T) {
	names := []string{"", "\x00", "B", "a", "aB", "aa", "aaaaaaaa", "ab", "aé", "a\uffff", "a\U00010000", "b", "z", "zz", "\u0080", "é", "éa", "\ud7ff", "\ue000", "\uffff", "\U00010000", "\U0010ffff"}
	var all []api.Term
	falling := newHouse(t)
	for _, name := range names {
		all = append(all, term.Atom(name))
	}
	rising(t, all)
	for _, name := range slices.Backward(names) {
		falling.n.Put(name)
	}
	for i := range names {
		for j := range names {
			falling.holds("atoms", atomOf(int64(i)), atomOf(int64(j)), cmp.Compare(j, i))
		}
	}
}

// P10.1: Refs and Pids by number; of any number, a Ref is ahead.
func TestRefsAndPids(t *testing.T) {
	var all []api.Term
	for _, make := range []func(int) api.Term{term.Ref, term.Pid} {
		for _, n := range []int{0, 1, 2, 255, 256, 1<<30 - 1, 1 << 30} {
			all = append(all, make(n))
		}
	}
	rising(t, all)
}

// P10.1: Tuples by how many items they have, whatever these are; then item by item, the first that parts.
func TestTuples(t *testing.T) {
	bin := term.Bin([]byte{255})
	all := []api.Term{
		tuple(),
		tuple(term.Int(-9)), tuple(term.Int(1)), tuple(tuple(bin, bin, bin)), tuple(bin),
		tuple(ints(-9, -9)...), tuple(ints(1, 2)...), tuple(ints(1, 3)...), tuple(ints(2, 1)...), tuple(bin, bin),
		tuple(ints(-9, -9, -9)...), tuple(ints(1, 2, 9)...), tuple(ints(1, 3, 2)...), tuple(ints(1, 3, 3)...), tuple(ints(2, 0, 0)...),
		tuple(tuple(), tuple(bin, bin), tuple()), tuple(tuple(bin), tuple(), tuple()), tuple(tuple(bin), tuple(), tuple(bin)),
	}
	wide := slices.Repeat(ints(5), api.MaxTuple)
	all = append(all, tuple(wide[1:]...))
	for _, at := range []int{0, 1, api.MaxTuple - 1} {
		all = append(all, tuple(replaced(wide, at, term.Int(4))...))
	}
	all = append(all, tuple(wide...))
	for _, at := range []int{api.MaxTuple - 1, 1, 0} {
		all = append(all, tuple(replaced(wide, at, term.Int(6))...))
	}
	rising(t, all)
}

// replaced are items of which one is another.
func replaced(l []api.Term, at int, x api.Term) []api.Term {
	l = slices.Clone(l)
	l[at] = x
	return l
}

// P10.1: Conses by their heads, then their tails: lists alike as far as one goes, some with an end that is not Nil.
func TestConses(t *testing.T) {
	bin, one := term.Bin(nil), term.Int(1)
	rising(t, []api.Term{
		row(-5, 9, 9), row(-5, 10),
		cons(one, term.Int(0)), cons(one, term.Int(2)), cons(one, term.Int(1<<60)), cons(one, term.Atom("")), cons(one, tuple(bin)),
		row(1), cons(one, cons(one, term.Int(7))), row(1, 1), row(1, 1, 1), row(1, 2), row(1, 2, 0), cons(one, cons(term.Int(3), term.Int(9))), row(1, 3), cons(one, bin),
		row(2), row(2, -1),
		cons(term.Nil(), term.Nil()), cons(term.Nil(), bin),
		term.List(row(0), row(9)), term.List(row(0, 0)), term.List(row(0, 0), term.Int(5)), term.List(row(0, 1), term.Int(4)), term.List(row(1)), term.List(row(1), term.Int(0)),
		cons(bin, term.Int(0)), cons(bin, bin),
	})
}

// P10.1: Bins byte by byte, a beginning ahead, however long they are.
func TestBins(t *testing.T) {
	var all []api.Term
	for _, b := range []string{"", "\x00", "\x00\x00", "\x00\x01", "\x01", "\x01\x00", "\x01\x00\xff", "\x01\x01", "\x01\xff\xff", "\x02", "\x7f\xff", "\x80", "\xff", "\xff\x00", "\xff\xff"} {
		all = append(all, term.Bin([]byte(b)))
	}
	rising(t, all)
	most := make([]byte, api.MaxBin)
	rising(t, []api.Term{term.Bin(most[1:]), term.Bin(most), term.Bin(append(most[1:len(most):len(most)], 1)), term.Bin([]byte{1})})
}

// P10.1: Bins by their bytes, wherever these lie: at two handles, at two places of one, one of them a part of the other, none at all.
func TestBinsByTheirBytes(t *testing.T) {
	h := newHouse(t)
	h.b.rows = [][]byte{[]byte("hello hello"), []byte("hello"), []byte("help")}
	bin := func(handle, at, n int) api.Word {
		return h.object(head(word.Bin, 3, 1), api.Word(handle), api.Word(at), api.Word(n))
	}
	for _, c := range []struct {
		x, y [3]int
		want int
	}{
		{[3]int{1, 0, 5}, [3]int{2, 0, 5}, 0},
		{[3]int{1, 0, 5}, [3]int{1, 6, 5}, 0},
		{[3]int{1, 0, 5}, [3]int{1, 0, 5}, 0},
		{[3]int{1, 0, 4}, [3]int{1, 0, 5}, -1},
		{[3]int{1, 1, 4}, [3]int{1, 0, 5}, -1},
		{[3]int{1, 2, 1}, [3]int{1, 3, 1}, 0},
		{[3]int{2, 0, 5}, [3]int{3, 0, 4}, -1},
		{[3]int{2, 0, 3}, [3]int{3, 0, 3}, 0},
		{[3]int{3, 3, 1}, [3]int{2, 4, 1}, 1},
		{[3]int{1, 0, 0}, [3]int{2, 5, 0}, 0},
		{[3]int{0, 0, 0}, [3]int{99, 1 << 40, 0}, 0},
		{[3]int{99, 0, 0}, [3]int{1, 5, 1}, -1},
	} {
		x, y := bin(c.x[0], c.x[1], c.x[2]), bin(c.y[0], c.y[1], c.y[2])
		h.holds("Bins", x, y, c.want)
		h.holds("Bins in Tuples", h.tuple(nilWord(), x), h.tuple(nilWord(), y), c.want)
		h.holds("Bins in Conses", h.cons(x, x), h.cons(x, y), c.want)
	}
	if h.b.grants+h.b.drops > 0 {
		t.Error("bytes are granted or dropped")
	}
}

// P10.1: the first place that parts counts, in whatever part it lies, and nothing behind it.
func TestFirstPlaceThatParts(t *testing.T) {
	high, low := term.Bin([]byte{9}), term.Int(-9)
	h := newHouse(t)
	for i, in := range []func(a, b api.Term) api.Term{
		func(a, b api.Term) api.Term { return tuple(a, b) },
		func(a, b api.Term) api.Term { return cons(a, b) },
		func(a, b api.Term) api.Term { return tuple(tuple(a), b) },
		func(a, b api.Term) api.Term { return tuple(tuple(a, tuple(b)), low) },
		func(a, b api.Term) api.Term { return tuple(cons(low, a), cons(b, low)) },
		func(a, b api.Term) api.Term { return cons(tuple(row(1), row(2), a), tuple(b)) },
		func(a, b api.Term) api.Term { return term.List(row(1, 2), term.List(a), high, b) },
		func(a, b api.Term) api.Term { return cons(cons(cons(cons(low, a), low), low), b) },
		func(a, b api.Term) api.Term { return tuple(chain(500, a), nested(500, b)) },
		func(a, b api.Term) api.Term { return cons(leaning(500, a), chain(500, b)) },
	} {
		x, y := term.Int(1), term.Int(2)
		what := "form " + string(rune('0'+i))
		h.holds(what, h.put(in(x, high)), h.put(in(y, low)), -1)
		h.holds(what, h.put(in(x, low)), h.put(in(x, high)), -1)
		h.holds(what, h.put(in(x, y)), h.put(in(x, y)), 0)
	}
}

// P10.1: deep terms and long ones, up to MaxTree parts.
func TestDeepAndLong(t *testing.T) {
	for name, in := range map[string]func(n int, x api.Term) api.Term{
		"nested":  nested,
		"leaning": func(n int, x api.Term) api.Term { return leaning(n/2, x) },
		"chain":   func(n int, x api.Term) api.Term { return chain(n/2, x) },
	} {
		for _, n := range []int{1, 1000, api.MaxTree - 3} {
			h := newHouse(t)
			one, other, two := h.put(in(n, term.Int(1))), h.put(in(n, term.Int(1))), h.put(in(n, term.Int(2)))
			h.holds(name, one, two, -1)
			h.holds(name, one, other, 0)
			h.holds(name+", an item behind", h.tuple(one, small(2)), h.tuple(other, small(1)), 1)
			h.holds(name+", an item ahead", h.tuple(small(2), one), h.tuple(small(1), two), 1)
		}
	}
	rising(t, []api.Term{nested(3, term.Int(0)), nested(4, term.Int(0)), nested(3, term.Nil())})
	rising(t, []api.Term{chain(999, term.Int(0)), chain(999, term.Nil()), chain(1000, term.Int(0)), chain(1000, term.Nil()), chain(1000, row(1))})
	h := newHouse(t)
	h.holds("MaxTree parts", h.put(nested(api.MaxTree-1, term.Nil())), h.put(nested(api.MaxTree-1, term.Nil())), 0)
	h.holds("MaxTree parts", h.put(nested(api.MaxTree-1, term.Nil())), h.put(nested(api.MaxTree-1, term.Pid(1))), 1)
}

// doubled adds Tuples of two, each with the one ahead twice, so many, on these words; where the last is.
func (h *house) doubled(times int, w api.Word) api.Word {
	for range times {
		w = h.tuple(w, w)
	}
	return w
}

// P10.1: what is shared means what it would mean if it were not, however great it is as a tree.
func TestShared(t *testing.T) {
	h := newHouse(t)
	one := h.put(row(1, 2))
	h.holds("shared, and not", h.tuple(one, one), h.put(tuple(row(1, 2), row(1, 2))), 0)
	h.holds("shared, and not", h.tuple(one, one), h.put(tuple(row(1, 2), row(1, 3))), -1)
	h.holds("of one that is shared", h.tuple(one, one, h.put(row(7))), h.tuple(one, one, h.put(row(6))), 1)
	x, y, z := h.doubled(15, small(0)), h.doubled(15, small(0)), h.doubled(15, small(1)) // 65535 parts each
	h.holds("great", x, y, 0)
	h.holds("great", x, z, -1)
	h.holds("great, at one place", x, x, 0)
	h.holds("MaxTree parts", h.tuple(x), h.tuple(y), 0)
	h.holds("MaxTree parts", h.tuple(x), h.tuple(z), -1)
	h.holds("MaxTree parts, at one place", h.tuple(x), h.tuple(x), 0)
	most := h.tuple(x)
	h.holds("MaxTree parts, itself", most, most, 0)
	h.holds("MaxTree parts against few", most, small(3), 1)
	for _, c := range [][2]api.Word{
		{h.tuple(x, small(1)), x}, {x, h.tuple(small(1), x)}, {h.tuple(x, small(1)), h.tuple(x, small(1))}, {small(1), h.tuple(most)}, {h.cons(x, nilWord()), nilWord()}, {h.doubled(17, small(0)), x}, {h.tuple(small(1), h.doubled(17, small(0))), h.tuple(small(2), small(3))},
	} {
		h.refuses("more than MaxTree parts", c[0], c[1])
	}
	past := h.tuple(most)
	h.refuses("more than MaxTree parts, itself", past, past)
}

// P10.2: a word is the Same as itself, if it means something at all.
func TestItself(t *testing.T) {
	h := newHouse(t)
	h.n.Put("a")
	for _, w := range []api.Word{small(0), small(-1 << 59), atomOf(0), word.Of(word.Pid, 0), word.Of(word.Ref, 1<<30), nilWord(), h.put(row(1)), h.put(tuple()), h.put(term.Int(1 << 60)), h.put(term.Bin([]byte("b"))), h.put(term.Bin(nil))} {
		h.holds("itself", w, w, 0)
		h.holds("itself in others", h.tuple(w), h.tuple(w), 0)
	}
	for _, w := range []api.Word{atomOf(1), word.Of(word.Pid, -1), word.Of(word.Nil, 1), ptr(1 << 20), ptr(-1), api.Word(word.Head), api.Word(word.Link), 8, 15} {
		h.refuses("itself", w, w)
	}
}
