package build

import (
	"math"
	"reflect"
	"slices"
	"testing"

	"tenement/api"
	"tenement/arena"
	"tenement/atoms"
	"tenement/big"
	"tenement/term"
	"tenement/word"
)

// heapOf is an arena of just these words.
func heapOf(words ...api.Word) *arena.Arena {
	a := arena.New(len(words))
	a.Take(len(words))
	for i, w := range words {
		a.Set(i, w)
	}
	return a
}

// names is a table with the atoms a and b.
func names() *atoms.Table {
	n := atoms.New()
	n.Put("a")
	n.Put("b")
	return n
}

// holding is a bag that has "hello" as handle 1.
func holding() *bag {
	return &bag{first: 1, rows: [][]byte{[]byte("hello")}}
}

// gets tells that w is read as want.
func gets(t *testing.T, what string, want api.Term, w api.Word, words ...api.Word) {
	t.Helper()
	a, n := heapOf(words...), names()
	got, ok := Get(a, n, w, holding())
	if !ok || !term.Same(got, want) || !term.May(got) {
		t.Errorf("%s: %+v, %v, want %+v", what, got, ok, want)
	}
	fit(t, what, a, words...)
	if n.Len() != 2 {
		t.Errorf("%s: %d names", what, n.Len())
	}
}

// refusesIt tells that w is not read.
func refusesIt(t *testing.T, what string, w api.Word, words ...api.Word) {
	t.Helper()
	a := heapOf(words...)
	if got, ok := Get(a, names(), w, holding()); ok || !reflect.DeepEqual(got, api.Term{}) {
		t.Errorf("%s, by %x: %+v, %v", what, w, got, ok)
	}
	fit(t, what, a, words...)
}

// refuses tells that w is not read, nor is what it is in: a Tuple that has it last, a Cons of that and of it.
func refuses(t *testing.T, what string, w api.Word, words ...api.Word) {
	t.Helper()
	refusesIt(t, what, w, words...)
	at := int64(len(words))
	tree := Tree(heapOf(words...), w)
	words = append(slices.Clone(words), head(word.Tuple, 2, 2+tree), nilWord(), w, head(word.Cons, 2, 3+2*tree), ptr(at), w)
	refusesIt(t, what, ptr(at), words...)
	refusesIt(t, what, ptr(at+3), words...)
}

// P9.2: words that are no Ptr.
func TestGetOfWords(t *testing.T) {
	gets(t, "0", term.Int(0), small(0))
	gets(t, "2^59 - 1", term.Int(1<<59-1), small(1<<59-1))
	gets(t, "-2^59", term.Int(-1<<59), small(-1<<59))
	gets(t, "an atom", term.Atom("a"), atomOf(0))
	gets(t, "the last atom", term.Atom("b"), atomOf(1))
	gets(t, "a Pid", term.Pid(3), word.Of(word.Pid, 3))
	gets(t, "the first Pid", term.Pid(0), word.Of(word.Pid, 0))
	gets(t, "the last Pid", term.Pid(1<<30), word.Of(word.Pid, 1<<30))
	gets(t, "a Ref", term.Ref(3), word.Of(word.Ref, 3))
	gets(t, "the first Ref", term.Ref(0), word.Of(word.Ref, 0))
	gets(t, "the last Ref", term.Ref(1<<30), word.Of(word.Ref, 1<<30))
	gets(t, "Nil", term.Nil(), nilWord())
	for _, n := range []int64{-1 << 59, -1, 2, 1<<59 - 1} {
		refuses(t, "no atom", atomOf(n))
	}
	for _, n := range []int64{-1 << 59, -1, 1<<30 + 1, 1<<59 - 1} {
		refuses(t, "no Pid", word.Of(word.Pid, n))
		refuses(t, "no Ref", word.Of(word.Ref, n))
	}
	for _, n := range []int64{-1 << 59, -1, 1, 1<<59 - 1} {
		refuses(t, "Nil with a value", word.Of(word.Nil, n))
	}
	for tag := word.Head; tag < 16; tag++ {
		refuses(t, "a tag that no term has", api.Word(tag))
		refuses(t, "a tag that no term has", api.Word(1<<4|tag))
	}
}

// P9.2: what a Ptr points at.
func TestGetOfPtrs(t *testing.T) {
	list := []api.Word{head(word.Cons, 2, 3), small(1), nilWord()}
	gets(t, "a list", term.List(term.Int(1)), ptr(0), list...)
	gets(t, "a list behind another", term.List(term.Int(1)), ptr(3), append(list, list...)...)
	gets(t, "behind words of any kind", term.List(term.Int(1)), ptr(1), append([]api.Word{9}, list...)...)
	for _, at := range []int64{-1 << 59, -1, 1, 2, 3, 1 << 58, 1<<59 - 1} {
		refuses(t, "no header there", ptr(at), list...)
	}
	refuses(t, "of a heap without words", ptr(0))
	for n := range len(list) {
		refusesIt(t, "cut off", ptr(0), list[:n]...)
	}
	refuses(t, "a Ptr", ptr(0), ptr(1), head(word.Tuple, 0, 1))
	refuses(t, "a header with a bit too many", ptr(0), head(word.Tuple, 0, 1)|1<<63)
	a := arena.New(3) // the words are there, but not used
	a.Take(2)
	a.Set(0, head(word.Cons, 2, 3))
	if x, ok := Get(a, names(), ptr(0), nil); ok {
		t.Errorf("an object past the used words: %v", x)
	}
	a.Take(1)
	if x, ok := Get(a, names(), ptr(0), nil); !ok {
		t.Errorf("an object within the used words: %v", x)
	}
}

// P9.2: a Ptr does not end within: objects just at the end of the used words.
func TestGetAtTheEnd(t *testing.T) {
	for _, words := range [][]api.Word{
		{head(word.Tuple, 1, 2), small(1)},
		{head(word.Big, 2, 1), 0, 1 << 31},
		{head(word.Bin, 3, 1), 1, 0, 2},
		{head(word.Bin, 3, 1), 0, 0, 0},
		{head(word.Cons, 2, 3), 0, 0},
		{head(word.Tuple, 0, 1)},
	} {
		for n := range len(words) {
			refusesIt(t, "cut off", ptr(0), words[:n]...)
		}
		if _, ok := Get(heapOf(words...), names(), ptr(0), holding()); !ok {
			t.Errorf("%x is not read", words)
		}
	}
	refusesIt(t, "a great Tuple", ptr(0), head(word.Tuple, 1<<20-1, 2), small(1))
}

// P9.2: headers of Conses and Tuples that lie.
func TestGetOfLyingHeaders(t *testing.T) {
	for _, tree := range []int{0, 1, 2, 4, 1<<20 - 1} {
		refuses(t, "Tree of a Cons", ptr(0), head(word.Cons, 2, tree), 0, 0)
		refuses(t, "Tree of a Tuple", ptr(0), head(word.Tuple, 2, tree), 0, 0)
	}
	for _, size := range []int{0, 1, 3, 4} {
		refuses(t, "Size of a Cons", ptr(0), head(word.Cons, size, 3), 0, 0, 0, 0)
		refuses(t, "Size of a Cons", ptr(0), head(word.Cons, size, 1+size), 0, 0, 0, 0)
	}
	refuses(t, "a Cons with a sign", ptr(0), minus(word.Cons, 2, 3), 0, 0)
	refuses(t, "a Tuple with a sign", ptr(0), minus(word.Tuple, 2, 3), 0, 0)
	refuses(t, "a Tuple without items, with a sign", ptr(0), minus(word.Tuple, 0, 1))
	refuses(t, "Tree of an item", ptr(2), head(word.Tuple, 1, 3), 0, head(word.Tuple, 1, 4), ptr(0))
	refuses(t, "Tree of an item that is 0", ptr(2), head(word.Tuple, 1, 0), 0, head(word.Tuple, 1, 1), ptr(0))
	refuses(t, "an item that is none", ptr(0), head(word.Tuple, 2, 3), 0, api.Word(word.Link))
	refuses(t, "a Ptr to none", ptr(0), head(word.Tuple, 2, 3), 0, ptr(9))
	gets(t, "no items", term.Tuple(), ptr(0), head(word.Tuple, 0, 1))
	many := slices.Repeat([]api.Word{small(1)}, 256)
	gets(t, "many items", term.Tuple(slices.Repeat([]api.Term{term.Int(1)}, 255)...), ptr(0), append([]api.Word{head(word.Tuple, 255, 256)}, many...)...)
	refuses(t, "too many items", ptr(0), append([]api.Word{head(word.Tuple, 256, 257)}, many...)...)
}

// P9.2: Bigs that are not written as a number is.
func TestGetOfBigs(t *testing.T) {
	gets(t, "2^59", term.Int(1<<59), ptr(0), head(word.Big, 2, 1), 0, 1<<27)
	gets(t, "-2^59 - 1", term.Int(-1<<59-1), ptr(0), minus(word.Big, 2, 1), 1, 1<<27)
	gets(t, "2^64", term.Num(power(64)), ptr(0), head(word.Big, 3, 1), 0, 0, 1)
	most := slices.Repeat([]api.Word{math.MaxUint32}, 65)
	gets(t, "the greatest", term.Num(greatest(64)), ptr(0), append([]api.Word{head(word.Big, 64, 1)}, most...)...)
	gets(t, "the least", term.Num(negated(greatest(64))), ptr(0), append([]api.Word{minus(word.Big, 64, 1)}, most...)...)
	refuses(t, "too many limbs", ptr(0), append([]api.Word{head(word.Big, 65, 1)}, most...)...)
	refuses(t, "no limbs", ptr(0), head(word.Big, 0, 1))
	refuses(t, "no limbs, a sign", ptr(0), minus(word.Big, 0, 1))
	refuses(t, "one limb", ptr(0), head(word.Big, 1, 1), math.MaxUint32)
	refuses(t, "2^59 - 1", ptr(0), head(word.Big, 2, 1), math.MaxUint32, 1<<27-1)
	refuses(t, "-2^59", ptr(0), minus(word.Big, 2, 1), 0, 1<<27)
	refuses(t, "0", ptr(0), head(word.Big, 2, 1), 0, 0)
	refuses(t, "a nought at the end", ptr(0), head(word.Big, 3, 1), 0, 1<<31, 0)
	refuses(t, "a limb of more than 32 bits", ptr(0), head(word.Big, 3, 1), 1<<32, 0, 1)
	refuses(t, "a last limb of more than 32 bits", ptr(0), head(word.Big, 3, 1), 0, 0, 1<<32)
	refuses(t, "a limb with all bits", ptr(0), head(word.Big, 3, 1), 0, math.MaxUint64, 1)
	for _, tree := range []int{0, 2, 3, 1<<20 - 1} {
		refuses(t, "Tree", ptr(0), head(word.Big, 2, tree), 0, 1<<31)
	}
}

// P9.2: Bins, and those that lie.
func TestGetOfBins(t *testing.T) {
	bin := head(word.Bin, 3, 1)
	gets(t, "all", term.Bin([]byte("hello")), ptr(0), bin, 1, 0, 5)
	gets(t, "a part", term.Bin([]byte("ell")), ptr(0), bin, 1, 1, 3)
	gets(t, "the last one", term.Bin([]byte("o")), ptr(0), bin, 1, 4, 1)
	gets(t, "none", term.Bin(nil), ptr(0), bin, 0, 0, 0)
	gets(t, "none of a handle that is none", term.Bin(nil), ptr(0), bin, 99, 1<<62, 0)
	refuses(t, "one too many", ptr(0), bin, 1, 0, 6)
	refuses(t, "one too far", ptr(0), bin, 1, 1, 5)
	refuses(t, "no handle", ptr(0), bin, 2, 0, 1)
	refuses(t, "the handle 0", ptr(0), bin, 0, 0, 1)
	refuses(t, "a place that is no number", ptr(0), bin, 1, math.MaxUint64, 1)
	refuses(t, "a place that is no number, no bytes", ptr(0), bin, 1, 1<<63, 0)
	refuses(t, "a length that is no number", ptr(0), bin, 1, 0, math.MaxUint64)
	refuses(t, "a length that is no number", ptr(0), bin, 1, 0, 1<<63)
	refuses(t, "a sign", ptr(0), minus(word.Bin, 3, 1), 1, 0, 5)
	for _, tree := range []int{0, 2, 4} {
		refuses(t, "Tree", ptr(0), head(word.Bin, 3, tree), 1, 0, 5)
	}
	for _, size := range []int{0, 1, 2, 4} {
		refuses(t, "Size", ptr(0), head(word.Bin, size, 1), 1, 0, 5, 0)
	}
}

// P9.2: bytes are asked for, where there are some, once for each Bin, in their order.
func TestLooks(t *testing.T) {
	a := heapOf(head(word.Bin, 3, 1), 2, 0, 1, head(word.Bin, 3, 1), 1, 0, 0, head(word.Bin, 3, 1), 1, 0, 2, head(word.Tuple, 3, 4), ptr(0), ptr(4), ptr(8))
	b := &bag{first: 1, rows: [][]byte{[]byte("ab"), []byte("c")}}
	x, ok := Get(a, names(), ptr(12), b)
	if !ok || !term.Same(x, term.Tuple(term.Bin([]byte("c")), term.Bin(nil), term.Bin([]byte("ab")))) || !slices.Equal(b.log, []string{"look 2", "look 1"}) {
		t.Errorf("%v, %v, asked %v", x, ok, b.log)
	}
	for _, w := range []api.Word{ptr(0), ptr(8), ptr(12)} {
		if x, ok := Get(a, names(), w, nil); ok || !reflect.DeepEqual(x, api.Term{}) {
			t.Errorf("nobody looks up %v", x)
		}
	}
	if x, ok := Get(a, names(), ptr(4), nil); !ok || x.Kind != api.Bin || len(x.B) != 0 {
		t.Errorf("no bytes: %v, %v", x, ok)
	}
}

// P9.2: words that are not as they are to be are refused before bytes are asked for.
func TestNoLooksForLies(t *testing.T) {
	for _, words := range [][]api.Word{
		{head(word.Bin, 3, 1), 1, 0, math.MaxUint64},
		{head(word.Bin, 3, 1), 1, 1 << 63, 1},
		{head(word.Bin, 3, 1), 1, 0, api.MaxBin + 1},
		{head(word.Bin, 3, 2), 1, 0, 1},
		{minus(word.Bin, 3, 1), 1, 0, 1},
		{head(word.Bin, 4, 1), 1, 0, 1, 0},
	} {
		b := holding()
		if x, ok := Get(heapOf(words...), names(), ptr(0), b); ok || len(b.log) != 0 {
			t.Errorf("%x: %v, asked %v", words, x, b.log)
		}
	}
}

// wild answers what it likes.
type wild struct{ b []byte }

func (w wild) Grant(b []byte) (int, bool)            { return 1, true }
func (w wild) Look(handle, at, n int) ([]byte, bool) { return w.b, true }
func (w wild) Drop(handle int) bool                  { return true }

// P9.2: bytes of another number are not those that were asked for, nor are more than a Bin may have.
func TestLooksOfAnotherLength(t *testing.T) {
	for _, n := range []int{0, 1, 2, 4, 5} {
		if x, ok := Get(heapOf(head(word.Bin, 3, 1), 1, 0, 3), names(), ptr(0), wild{make([]byte, n)}); ok {
			t.Errorf("%d bytes: %v", n, x)
		}
	}
	for _, n := range []int{api.MaxBin, api.MaxBin + 1} {
		x, ok := Get(heapOf(head(word.Bin, 3, 1), 1, 0, api.Word(n)), names(), ptr(0), wild{make([]byte, n)})
		if ok != (n == api.MaxBin) || ok && len(x.B) != n || !ok && x.B != nil {
			t.Errorf("%d bytes: %v", n, ok)
		}
	}
}

// R7: an arena or a table that is nil.
func TestNilArguments(t *testing.T) {
	for _, w := range []api.Word{small(1), atomOf(0), nilWord(), ptr(0)} {
		for _, x := range []struct {
			a *arena.Arena
			n *atoms.Table
		}{{nil, names()}, {heapOf(head(word.Tuple, 0, 1)), nil}, {nil, nil}} {
			if got, ok := Get(x.a, x.n, w, nil); ok || !reflect.DeepEqual(got, api.Term{}) {
				t.Errorf("%x: %v, %v", w, got, ok)
			}
		}
		if got := Tree(nil, w); got != 0 {
			t.Errorf("Tree of %x in nil is %d", w, got)
		}
	}
	if w, ok := Fresh(nil, word.Header{}); w != 0 || ok {
		t.Errorf("Fresh in nil: %x, %v", w, ok)
	}
}

// doubled adds tuples of two, each with the one ahead twice, so many; where the last is.
func doubled(a *arena.Arena, times int) api.Word {
	w, _ := Fresh(a, word.Header{Kind: word.Tuple, Tree: 1})
	for range times {
		w = pair(a, w, w)
	}
	return w
}

// pair adds a tuple of two.
func pair(a *arena.Arena, x, y api.Word) api.Word {
	w, _ := Fresh(a, word.Header{Kind: word.Tuple, Size: 2, Tree: 1 + Tree(a, x) + Tree(a, y)})
	at := int(word.Value(w))
	a.Set(at+1, x)
	a.Set(at+2, y)
	return w
}

// P9.2: what is shared counts each time, up to MaxTree parts.
func TestGetOfShared(t *testing.T) {
	a := arena.New(200)
	w := doubled(a, 15) // 65535 parts
	x, ok := Get(a, names(), w, nil)
	if !ok || term.Tree(x) != 65535 {
		t.Fatalf("65535 parts: %v, %d", ok, term.Tree(x))
	}
	one, _ := Fresh(a, word.Header{Kind: word.Tuple, Size: 1, Tree: 65536})
	a.Set(int(word.Value(one))+1, w)
	x, ok = Get(a, names(), one, nil)
	if !ok || term.Tree(x) != api.MaxTree || !term.May(x) {
		t.Errorf("MaxTree parts: %v, %d", ok, term.Tree(x))
	}
	for _, w := range []api.Word{pair(a, w, 0), pair(a, 0, w), pair(a, w, w), pair(a, one, 0), doubled(a, 18)} {
		if x, ok := Get(a, names(), w, nil); ok || !reflect.DeepEqual(x, api.Term{}) {
			t.Errorf("Tree %d: %v", Tree(a, w), ok)
		}
	}
}

// P9.2: circles, of whatever Tree, narrow and wide.
func TestGetOfCircles(t *testing.T) {
	for _, tree := range []int{0, 1, 2, 3, 4, api.MaxTree, 1<<20 - 1} {
		refuses(t, "a Tuple of itself", ptr(0), head(word.Tuple, 1, tree), ptr(0))
		refuses(t, "a Cons in its tail", ptr(0), head(word.Cons, 2, tree), small(1), ptr(0))
		refuses(t, "a Cons in its head", ptr(0), head(word.Cons, 2, tree), ptr(0), small(1))
		for _, other := range []int{0, 1, tree - 1, tree, tree + 1} {
			if h := head(word.Tuple, 1, other); word.Tag(h) == word.Head {
				refuses(t, "two in each other", ptr(0), head(word.Tuple, 1, tree), ptr(2), h, ptr(0))
			}
		}
		wide := append([]api.Word{head(word.Tuple, 255, tree)}, slices.Repeat([]api.Word{ptr(0)}, 255)...)
		refuses(t, "a wide circle", ptr(0), wide...)
	}
}

// P9.2: Tree of each kind of word, and of Ptrs.
func TestTree(t *testing.T) {
	a := heapOf(head(word.Cons, 2, 7), small(1), ptr(0), head(word.Big, 2, 1), 0, 1<<31, minus(word.Tuple, 0, 1<<20-1), head(word.Bin, 1, 0))
	for tag := word.Small; tag < 16; tag++ {
		if tag == word.Ptr {
			continue
		}
		for _, n := range []int{-1, 0, 3, 99} {
			if got := Tree(a, api.Word(n)<<4|api.Word(tag)); got != 1 {
				t.Errorf("tag %d, value %d: %d", tag, n, got)
			}
		}
	}
	for at, want := range map[int64]int{0: 7, 3: 1, 6: 1<<20 - 1, 7: 0, 1: 1, 2: 1, 4: 1, 8: 1, -1: 1, 1 << 50: 1, -1 << 59: 1, 1<<59 - 1: 1} {
		if got := Tree(a, ptr(at)); got != want {
			t.Errorf("a Ptr to %d: %d, want %d", at, got, want)
		}
	}
}

// P9.2: Fresh, as long as there is room.
func TestFresh(t *testing.T) {
	for _, h := range []word.Header{{Kind: word.Tuple}, {Kind: word.Cons, Size: 2, Tree: 3}, {Kind: word.Big, Size: 3, Tree: 1, Neg: true}, {Kind: word.Bin, Size: 3, Tree: 1}, {Kind: word.Cons, Size: 7, Tree: 1<<20 - 1}} {
		a := arena.New(2 + 1 + h.Size)
		a.Take(2)
		w, ok := Fresh(a, h)
		if w != ptr(2) || !ok {
			t.Errorf("%+v: %x, %v", h, w, ok)
		}
		want := make([]api.Word, 3+h.Size)
		want[2] = word.Make(h)
		fit(t, "Fresh", a, want...)
		if w, ok := Fresh(a, word.Header{}); w != 0 || ok || a.Used() != len(want) {
			t.Errorf("of a full one: %x, %v", w, ok)
		}
		less := arena.New(2 + h.Size)
		less.Take(2)
		if w, ok := Fresh(less, h); w != 0 || ok {
			t.Errorf("one less: %x, %v", w, ok)
		}
		still(t, "one less", less, 2+h.Size, 0, 0)
	}
	if w, ok := Fresh(arena.New(api.MaxWords), word.Header{Kind: word.Tuple, Size: api.MaxWords - 1}); w != ptr(0) || !ok {
		t.Errorf("of all words: %x, %v", w, ok)
	}
}

// P9.2: headers that there are not.
func TestFreshOfWrongHeaders(t *testing.T) {
	for _, h := range []word.Header{{Kind: -1}, {Kind: 4}, {Kind: math.MaxInt}, {Size: -1}, {Size: 1 << 20}, {Size: math.MaxInt}, {Size: math.MinInt}, {Tree: -1}, {Tree: 1 << 20}, {Tree: math.MaxInt}} {
		a := arena.New(50)
		if w, ok := Fresh(a, h); w != 0 || ok {
			t.Errorf("%+v: %x, %v", h, w, ok)
		}
		still(t, "a wrong header", a, 50)
	}
}

// P9.3: Get of Put is the term, and takes Words of it.
func TestGetOfPut(t *testing.T) {
	a, n, b := arena.New(api.MaxWords), atoms.New(), roomy()
	var words []api.Word
	for _, x := range terms() {
		used := a.Used()
		w, e := Put(a, n, x, b)
		if e != api.OK || a.Used()-used != term.Words(x) {
			t.Errorf("kind %d: %v, %d words, want %d", x.Kind, e, a.Used()-used, term.Words(x))
		}
		words = append(words, w)
	}
	for i, x := range terms() {
		got, ok := Get(a, n, words[i], b)
		if !ok || !term.Same(got, x) || !term.May(got) {
			t.Errorf("term %d: %v", i, ok)
		}
	}
}

// R2: each field of what is answered that its kind does not use is zero.
func TestGetOfPutToTheField(t *testing.T) {
	a, n, b := arena.New(1000), atoms.New(), roomy()
	for _, x := range []api.Term{term.Int(0), term.Int(7), term.Int(-7), term.Num(greatest(3)), term.Num(big.Of(math.MinInt64)), term.Atom("a"), term.Pid(2), term.Ref(3), term.Nil(), term.Tuple(term.Int(1), term.Nil()), term.List(term.Atom("b"), term.Bin([]byte("b")))} {
		w, _ := Put(a, n, x, b)
		if got, _ := Get(a, n, w, b); !reflect.DeepEqual(got, x) {
			t.Errorf("%+v is read as %+v", x, got)
		}
	}
}
