package build

import (
	"math"
	"reflect"
	"slices"
	"strconv"
	"strings"
	"testing"

	"tenement/api"
	"tenement/arena"
	"tenement/atoms"
	"tenement/big"
	"tenement/term"
	"tenement/word"
)

// bag holds bytes as long as there is room, and writes down what it is asked. Its handles are from first on.
type bag struct {
	first, room int
	rows        [][]byte
	log         []string
}

func (b *bag) Grant(x []byte) (int, bool) {
	if len(b.rows) >= b.room {
		b.log = append(b.log, "no grant of "+string(x))
		return 77, false
	}
	b.rows = append(b.rows, slices.Clone(x))
	handle := b.first + len(b.rows) - 1
	b.log = append(b.log, "grant "+strconv.Itoa(handle)+" of "+string(x))
	return handle, true
}

func (b *bag) Look(handle, at, n int) ([]byte, bool) {
	i := handle - b.first
	b.log = append(b.log, "look "+strconv.Itoa(handle))
	if i < 0 || i >= len(b.rows) || at < 0 || n < 0 || at > len(b.rows[i]) || n > len(b.rows[i])-at {
		return []byte("x"), false
	}
	return b.rows[i][at : at+n], true
}

func (b *bag) Drop(handle int) bool {
	b.log = append(b.log, "drop "+strconv.Itoa(handle))
	return false
}

// roomy is a bag with room for all that is granted here.
func roomy() *bag { return &bag{first: 1, room: 1 << 20} }

// head is a header's word.
func head(kind, size, tree int) api.Word {
	return word.Make(word.Header{Kind: kind, Size: size, Tree: tree})
}

// minus is the same with the sign set.
func minus(kind, size, tree int) api.Word {
	return word.Make(word.Header{Kind: kind, Size: size, Tree: tree, Neg: true})
}

func small(n int64) api.Word  { return word.Of(word.Small, n) }
func ptr(n int64) api.Word    { return word.Of(word.Ptr, n) }
func atomOf(n int64) api.Word { return word.Of(word.Atom, n) }
func nilWord() api.Word       { return word.Of(word.Nil, 0) }

// power is 2 to the n.
func power(n int) big.Num {
	d := make([]uint32, n/32+1)
	d[n/32] = 1 << (n % 32)
	return big.Num{D: d}
}

// negated is -a.
func negated(a big.Num) big.Num { return big.Sub(big.Of(0), a) }

// greatest is the greatest number of so many limbs.
func greatest(limbs int) big.Num {
	d := make([]uint32, limbs)
	for i := range d {
		d[i] = math.MaxUint32
	}
	return big.Num{D: d}
}

// nested is x in so many tuples, each in the next.
func nested(deep int, x api.Term) api.Term {
	for range deep {
		x = api.Term{Kind: api.Tuple, L: []api.Term{x}}
	}
	return x
}

// chain is a list of n times x.
func chain(n int, x api.Term) api.Term {
	t := term.Nil()
	for range n {
		t = api.Term{Kind: api.Cons, L: []api.Term{x, t}}
	}
	return t
}

// leaning is a row of conses in one another's heads.
func leaning(n int) api.Term {
	t := term.Nil()
	for range n {
		t = api.Term{Kind: api.Cons, L: []api.Term{t, term.Nil()}}
	}
	return t
}

// fit tells that words are those used, and no others.
func fit(t *testing.T, what string, a *arena.Arena, want ...api.Word) {
	t.Helper()
	if got := a.Words(); !slices.Equal(got, want) {
		t.Errorf("%s: the arena has %x, want %x", what, got, want)
	}
}

func TestExample(t *testing.T) {
	a := arena.New(9)
	w, e := Put(a, atoms.New(), term.List(term.Int(1)), nil)
	if w != ptr(0) || e != api.OK {
		t.Errorf("the word is %x, the error %v", w, e)
	}
	fit(t, "the example", a, head(word.Cons, 2, 3), small(1), nilWord())
}

// put is a term, and what it is in an arena that has a word already: its word, and the words behind that one.
type put struct {
	name  string
	x     api.Term
	w     api.Word
	words []api.Word
}

func checkPuts(t *testing.T, all []put) {
	t.Helper()
	for _, p := range all {
		a, n := arena.New(1+len(p.words)), atoms.New()
		n.Put("known")
		a.Take(1)
		a.Set(0, 5)
		w, e := Put(a, n, p.x, roomy())
		if w != p.w || e != api.OK {
			t.Errorf("%s: %x, %v, want %x", p.name, w, e, p.w)
		}
		fit(t, p.name, a, append([]api.Word{5}, p.words...)...)
		if got := term.Words(p.x); got != len(p.words) {
			t.Errorf("%s: Words is %d", p.name, got)
		}
	}
}

// A heap's term: those that are a word and nothing else.
func TestPutOfWords(t *testing.T) {
	checkPuts(t, []put{
		{"0", term.Int(0), small(0), nil},
		{"5", term.Int(5), small(5), nil},
		{"-5", term.Int(-5), small(-5), nil},
		{"2^59 - 1", term.Int(1<<59 - 1), small(1<<59 - 1), nil},
		{"-2^59", term.Int(-1 << 59), small(-1 << 59), nil},
		{"2^32", term.Int(1 << 32), small(1 << 32), nil},
		{"an atom that is there", term.Atom("known"), atomOf(0), nil},
		{"an atom that is new", term.Atom("new"), atomOf(1), nil},
		{"the atom without signs", term.Atom(""), atomOf(1), nil},
		{"a Pid", term.Pid(7), word.Of(word.Pid, 7), nil},
		{"the first Pid", term.Pid(0), word.Of(word.Pid, 0), nil},
		{"the last Pid", term.Pid(1 << 30), word.Of(word.Pid, 1<<30), nil},
		{"a Ref", term.Ref(9), word.Of(word.Ref, 9), nil},
		{"the last Ref", term.Ref(1 << 30), word.Of(word.Ref, 1<<30), nil},
		{"Nil", term.Nil(), nilWord(), nil},
	})
}

// A heap's term: numbers that do not fit a word.
func TestPutOfBigs(t *testing.T) {
	all := []put{
		{"2^59", term.Int(1 << 59), ptr(1), []api.Word{head(word.Big, 2, 1), 0, 1 << 27}},
		{"-2^59 - 1", term.Int(-1<<59 - 1), ptr(1), []api.Word{minus(word.Big, 2, 1), 1, 1 << 27}},
		{"2^63 - 1", term.Int(math.MaxInt64), ptr(1), []api.Word{head(word.Big, 2, 1), 1<<32 - 1, 1<<31 - 1}},
		{"-2^63", term.Int(math.MinInt64), ptr(1), []api.Word{minus(word.Big, 2, 1), 0, 1 << 31}},
		{"2^64 + 5", term.Num(big.Add(power(64), big.Of(5))), ptr(1), []api.Word{head(word.Big, 3, 1), 5, 0, 1}},
	}
	for _, n := range []int{2, 3, 63, 64} {
		words := slices.Repeat([]api.Word{math.MaxUint32}, n)
		all = append(all,
			put{"greatest", term.Num(greatest(n)), ptr(1), append([]api.Word{head(word.Big, n, 1)}, words...)},
			put{"least", term.Num(negated(greatest(n))), ptr(1), append([]api.Word{minus(word.Big, n, 1)}, words...)})
	}
	checkPuts(t, all)
}

// A heap's term: Tuples, Conses and Bins, each part ahead of what it is in.
func TestPutOfObjects(t *testing.T) {
	many := slices.Repeat([]api.Term{term.Int(3)}, api.MaxTuple)
	checkPuts(t, []put{
		{"no items", term.Tuple(), ptr(1), []api.Word{head(word.Tuple, 0, 1)}},
		{"one item", term.Tuple(term.Int(1)), ptr(1), []api.Word{head(word.Tuple, 1, 2), small(1)}},
		{"many items", term.Tuple(many...), ptr(1), append([]api.Word{head(word.Tuple, 255, 256)}, slices.Repeat([]api.Word{small(3)}, 255)...)},
		{"an improper list", term.Cons(term.Int(1), term.Int(2)), ptr(1), []api.Word{head(word.Cons, 2, 3), small(1), small(2)}},
		{"a list", term.List(term.Int(1), term.Atom("known"), term.Pid(3)), ptr(7), []api.Word{
			head(word.Cons, 2, 3), word.Of(word.Pid, 3), nilWord(),
			head(word.Cons, 2, 5), atomOf(0), ptr(1),
			head(word.Cons, 2, 7), small(1), ptr(4),
		}},
		{"a list in a head", term.Cons(term.List(term.Int(1)), term.List(term.Int(2))), ptr(7), []api.Word{
			head(word.Cons, 2, 3), small(1), nilWord(),
			head(word.Cons, 2, 3), small(2), nilWord(),
			head(word.Cons, 2, 7), ptr(1), ptr(4),
		}},
		{"objects of each kind", term.Tuple(term.Bin([]byte("ab")), term.Int(1<<60), term.Nil(), term.Tuple(term.Tuple(), term.Ref(4)), term.Bin(nil)), ptr(16), []api.Word{
			head(word.Bin, 3, 1), 1, 0, 2,
			head(word.Big, 2, 1), 0, 1 << 28,
			head(word.Tuple, 0, 1),
			head(word.Tuple, 2, 3), ptr(8), word.Of(word.Ref, 4),
			head(word.Bin, 3, 1), 0, 0, 0,
			head(word.Tuple, 5, 8), ptr(1), ptr(5), nilWord(), ptr(9), ptr(12),
		}},
		{"the same twice", term.Tuple(term.Tuple(), term.Tuple()), ptr(3), []api.Word{
			head(word.Tuple, 0, 1), head(word.Tuple, 0, 1), head(word.Tuple, 2, 3), ptr(1), ptr(2),
		}},
		{"a Bin of no bytes", term.Bin(nil), ptr(1), []api.Word{head(word.Bin, 3, 1), 0, 0, 0}},
		{"a Bin of many bytes", term.Bin(make([]byte, api.MaxBin)), ptr(1), []api.Word{head(word.Bin, 3, 1), 1, 0, api.MaxBin}},
	})
}

// P9.1: atoms are put and bytes granted in the order of the walk; of a Bin without bytes nothing is asked.
func TestOrderOfTheWalk(t *testing.T) {
	x := term.Tuple(term.Bin([]byte("b1")), term.Atom("a"), term.List(term.Atom("b"), term.Tuple(term.Atom("c"), term.Bin([]byte("b2")), term.Bin(nil))), term.Atom("a"), term.Cons(term.Bin([]byte("b3")), term.Atom("d")), term.Bin([]byte("b1")))
	a, n, b := arena.New(100), atoms.New(), roomy()
	if _, e := Put(a, n, x, b); e != api.OK {
		t.Fatal(e)
	}
	if want := []string{"grant 1 of b1", "grant 2 of b2", "grant 3 of b3", "grant 4 of b1"}; !slices.Equal(b.log, want) {
		t.Errorf("asked: %v, want %v", b.log, want)
	}
	var names []string
	for i := range n.Len() {
		name, _ := n.Name(i)
		names = append(names, name)
	}
	if want := []string{"a", "b", "c", "d"}; !slices.Equal(names, want) {
		t.Errorf("names: %v, want %v", names, want)
	}
}

// P9.1: whatever handle is granted stands in the Bin, and is looked up again.
func TestAnyHandle(t *testing.T) {
	for _, first := range []int{math.MinInt, -1 << 60, -1, 0, 1, 1 << 59, 1 << 60, math.MaxInt} {
		a, n, b := arena.New(4), atoms.New(), &bag{first: first, room: 1}
		w, e := Put(a, n, term.Bin([]byte("ab")), b)
		fit(t, "a Bin", a, head(word.Bin, 3, 1), api.Word(first), 0, 2)
		if x, ok := Get(a, n, w, b); e != api.OK || !ok || string(x.B) != "ab" {
			t.Errorf("handle %d: %v, then %v, %v", first, e, x, ok)
		}
	}
}

// wrong are terms that may not be.
func wrong() []api.Term {
	return []api.Term{
		{Kind: -1}, {Kind: 8}, {Kind: math.MaxInt}, {Kind: api.Nil, N: 1}, {Kind: api.Pid, N: -1}, {Kind: api.Ref, N: 1<<30 + 1},
		{Neg: true}, {D: []uint32{5, 0}}, {D: slices.Repeat([]uint32{1}, api.MaxLimbs+1)}, {Name: "a"},
		{Kind: api.Atom, Name: "\xff"}, {Kind: api.Atom, Name: strings.Repeat("a", 256)},
		{Kind: api.Tuple, L: make([]api.Term, api.MaxTuple+1)}, {Kind: api.Tuple, L: []api.Term{{Kind: 9}}},
		{Kind: api.Cons}, {Kind: api.Cons, L: make([]api.Term, 1)}, {Kind: api.Cons, L: make([]api.Term, 3)},
		{Kind: api.Bin, B: make([]byte, api.MaxBin+1)}, {Kind: api.Bin, D: []uint32{1}},
		chain(40000, term.Nil()), nested(70000, term.Nil()), nested(api.MaxTree, term.Nil()),
	}
}

// still tells that the arena is as it was, the words behind those used too.
func still(t *testing.T, what string, a *arena.Arena, size int, want ...api.Word) {
	t.Helper()
	fit(t, what, a, want...)
	if a.Size() != size {
		t.Errorf("%s: the size is %d, want %d", what, a.Size(), size)
	}
	if at, ok := a.Take(size - len(want)); !ok || at != len(want) || slices.Max(append(a.Words()[at:], 0)) != 0 {
		t.Errorf("%s: what was taken is not left, and 0", what)
	}
}

// P9.1: ErrArg, ahead of ErrLimit: nothing is put, granted or taken.
func TestPutOfWrongTerms(t *testing.T) {
	for i, x := range wrong() {
		for _, y := range []api.Term{x, {Kind: api.Tuple, L: []api.Term{term.Atom("a"), term.Bin([]byte("b")), x}}} {
			for _, size := range []int{2, 1000} {
				a, n, b := arena.New(size), atoms.New(), roomy()
				a.Take(2)
				a.Set(1, 5)
				w, e := Put(a, n, y, b)
				if w != 0 || e != api.ErrArg || n.Len() != 0 || len(b.log) != 0 {
					t.Errorf("%d: %x, %v, %d names, %v", i, w, e, n.Len(), b.log)
				}
				still(t, strconv.Itoa(i), a, size, 0, 5)
			}
		}
	}
}

// R7: an arena or a table that is nil.
func TestPutIntoNil(t *testing.T) {
	for _, x := range []api.Term{term.Int(1), term.Tuple(), term.Bin(nil), {Kind: 9}} {
		n, a := atoms.New(), arena.New(9)
		if w, e := Put(nil, n, x, roomy()); w != 0 || e != api.ErrArg {
			t.Errorf("no arena: %x, %v", w, e)
		}
		if w, e := Put(a, nil, x, roomy()); w != 0 || e != api.ErrArg || a.Used() != 0 {
			t.Errorf("no table: %x, %v", w, e)
		}
		if w, e := Put(nil, nil, x, nil); w != 0 || e != api.ErrArg {
			t.Errorf("neither: %x, %v", w, e)
		}
	}
	if w, e := Put(&arena.Arena{}, &atoms.Table{}, term.Atom("a"), nil); w != atomOf(0) || e != api.OK {
		t.Errorf("an arena and a table that New did not make: %x, %v", w, e)
	}
}

// P9.1: as many words left as are wanted, and one less: then no atom is put and nothing granted.
func TestRoom(t *testing.T) {
	for _, x := range []api.Term{
		term.Tuple(), term.Int(1 << 60), term.Bin([]byte("b")), term.Bin(nil), term.List(term.Atom("a")),
		term.Tuple(term.Atom("a"), term.Bin([]byte("b")), term.Tuple(term.Atom("c"))),
		term.Num(greatest(64)), chain(1000, term.Atom("a")),
	} {
		for _, used := range []int{0, 3} {
			size := used + term.Words(x)
			a, n, b := arena.New(size), atoms.New(), roomy()
			a.Take(used)
			if _, e := Put(a, n, x, b); e != api.OK || a.Used() != size {
				t.Errorf("just enough: %v, %d used of %d", e, a.Used(), size)
			}
			a, n, b = arena.New(size-1), atoms.New(), roomy()
			a.Take(used)
			if w, e := Put(a, n, x, b); w != 0 || e != api.ErrLimit || n.Len() != 0 || len(b.log) != 0 {
				t.Errorf("one less: %x, %v, %d names, %v", w, e, n.Len(), b.log)
			}
			still(t, "one less", a, size-1, make([]api.Word, used)...)
		}
	}
	if w, e := Put(arena.New(0), atoms.New(), term.Atom("a"), nil); w != atomOf(0) || e != api.OK {
		t.Errorf("an atom wants no words: %x, %v", w, e)
	}
	wide := chain(16000, term.Num(greatest(64))) // more words than an arena can have
	if w, e := Put(arena.New(api.MaxWords), atoms.New(), term.Tuple(term.Atom("a"), wide), nil); w != 0 || e != api.ErrLimit {
		t.Errorf("more than MaxWords: %x, %v", w, e)
	}
}

// full is a table that takes no new names.
func full() *atoms.Table {
	n := atoms.New()
	for i := range api.MaxAtoms {
		n.Put(strconv.Itoa(i))
	}
	return n
}

// P9.1: an atom that the table does not take, at the first place and behind others.
func TestNoMoreAtoms(t *testing.T) {
	n := full()
	for _, c := range []struct {
		x   api.Term
		log []string
	}{
		{term.Atom("new"), nil},
		{term.Tuple(term.Atom("new"), term.Bin([]byte("b"))), nil},
		{term.Tuple(term.Atom("7"), term.Int(1<<60), term.Atom("new")), nil},
		{term.List(term.Bin([]byte("b1")), term.Tuple(term.Bin([]byte("b2")), term.Bin(nil)), term.Atom("new"), term.Bin([]byte("b3"))), []string{"grant 1 of b1", "grant 2 of b2", "drop 2", "drop 1"}},
	} {
		a, b := arena.New(60), roomy()
		a.Take(1)
		a.Set(0, 5)
		if w, e := Put(a, n, c.x, b); w != 0 || e != api.ErrLimit || !slices.Equal(b.log, c.log) {
			t.Errorf("%x, %v, asked %v, want %v", w, e, b.log, c.log)
		}
		still(t, "a full table", a, 60, 5)
	}
	if w, e := Put(arena.New(2), n, term.Tuple(term.Atom("7")), nil); w != ptr(0) || e != api.OK {
		t.Errorf("an atom that is there: %x, %v", w, e)
	}
	if n.Len() != api.MaxAtoms {
		t.Errorf("there are %d names", n.Len())
	}
}

// P9.1: bytes that are not granted, at the first place and behind others that were; atoms that were put stay.
func TestNoGrant(t *testing.T) {
	x := term.Tuple(term.Atom("a"), term.Bin([]byte("b1")), term.List(term.Bin(nil), term.Atom("b"), term.Bin([]byte("b2"))), term.Int(1<<60), term.Bin([]byte("b3")), term.Atom("c"))
	for _, c := range []struct {
		room, names int
		log         []string
	}{
		{0, 1, []string{"no grant of b1"}},
		{1, 2, []string{"grant 1 of b1", "no grant of b2", "drop 1"}},
		{2, 2, []string{"grant 1 of b1", "grant 2 of b2", "no grant of b3", "drop 2", "drop 1"}},
	} {
		a, n, b := arena.New(60), atoms.New(), &bag{first: 1, room: c.room}
		a.Take(1)
		a.Set(0, 5)
		if w, e := Put(a, n, x, b); w != 0 || e != api.ErrLimit || n.Len() != c.names || !slices.Equal(b.log, c.log) {
			t.Errorf("room %d: %x, %v, %d names, asked %v, want %v", c.room, w, e, n.Len(), b.log, c.log)
		}
		still(t, "no grant", a, 60, 5)
	}
}

// P9.1: nobody grants nothing, but a Bin without bytes asks for nothing.
func TestNobody(t *testing.T) {
	a, n := arena.New(20), atoms.New()
	w, e := Put(a, n, term.Tuple(term.Bin(nil)), nil)
	if w != ptr(4) || e != api.OK {
		t.Errorf("no bytes: %x, %v", w, e)
	}
	if x, ok := Get(a, n, w, nil); !ok || !term.Same(x, term.Tuple(term.Bin(nil))) {
		t.Errorf("no bytes: %v, %v", x, ok)
	}
	was := a.Words()
	if w, e := Put(a, n, term.Tuple(term.Atom("a"), term.Bin([]byte("b"))), nil); w != 0 || e != api.ErrLimit || n.Len() != 1 {
		t.Errorf("bytes: %x, %v", w, e)
	}
	still(t, "nobody", a, 20, was...)
}

// rude panics wherever it is asked, as a bag that is nil does.
type rude struct{ *bag }

func (r rude) Drop(handle int) bool {
	r.bag.Drop(handle)
	panic("drop")
}

// R1: nor does it panic where who holds bytes does: then nothing is granted or looked up.
func TestWhoPanics(t *testing.T) {
	var none *bag
	a, n := arena.New(30), atoms.New()
	if w, e := Put(a, n, term.Bin([]byte("b")), none); w != 0 || e != api.ErrLimit || a.Used() != 0 {
		t.Errorf("Grant: %x, %v", w, e)
	}
	b := &bag{first: 1, room: 2}
	x := term.Tuple(term.Bin([]byte("b1")), term.Bin([]byte("b2")), term.Bin([]byte("b3")))
	if w, e := Put(a, n, x, rude{b}); w != 0 || e != api.ErrLimit || !slices.Equal(b.log[3:], []string{"drop 2", "drop 1"}) {
		t.Errorf("Drop: %x, %v, asked %v", w, e, b.log)
	}
	still(t, "who panics", a, 30)
	a, b = arena.New(4), roomy()
	w, _ := Put(a, n, term.Bin([]byte("b")), b)
	if x, ok := Get(a, n, w, none); ok || !reflect.DeepEqual(x, api.Term{}) {
		t.Errorf("Look: %v, %v", x, ok)
	}
}

// P9.1: Trees in headers are those of terms.
func TestTreesInHeaders(t *testing.T) {
	a, n, b := arena.New(api.MaxWords), atoms.New(), roomy()
	for _, x := range terms() {
		w, e := Put(a, n, x, b)
		if e != api.OK || Tree(a, w) != term.Tree(x) {
			t.Errorf("%v: Tree %d, want %d", e, Tree(a, w), term.Tree(x))
		}
	}
	places, ok := a.Objects()
	if !ok {
		t.Fatal("no row of objects")
	}
	for _, at := range places {
		first, _ := a.Get(at)
		h, _ := word.Read(first)
		if h.Tree > 100 { // else each part of a long list is read again and again
			continue
		}
		x, ok := Get(a, n, ptr(int64(at)), b)
		if !ok || h.Tree != term.Tree(x) || Tree(a, ptr(int64(at))) != h.Tree {
			t.Errorf("at %d: %+v, %v", at, h, ok)
		}
	}
}

// terms are of each kind, wide ones, long ones and deep ones.
func terms() []api.Term {
	return []api.Term{
		term.Int(0), term.Int(-1), term.Int(1<<59 - 1), term.Int(1 << 59), term.Int(-1 << 59), term.Int(-1<<59 - 1), term.Num(greatest(64)), term.Num(negated(greatest(64))), term.Num(power(96)), term.Num(negated(power(2047))),
		term.Atom(""), term.Atom("a"), term.Atom(strings.Repeat("é", 255)), term.Pid(0), term.Pid(1 << 30), term.Ref(0), term.Ref(1 << 30), term.Nil(),
		term.Tuple(), term.Tuple(term.Tuple(), term.Tuple()), term.Tuple(slices.Repeat([]api.Term{term.Int(1 << 60)}, 255)...),
		term.Cons(term.Int(1), term.Int(2)), term.List(term.List(), term.List(term.Nil()), term.Atom("b")), term.Cons(term.Nil(), term.Tuple(term.Pid(1))),
		term.Bin(nil), term.Bin([]byte("ab")), term.Bin(slices.Repeat([]byte("c"), api.MaxBin)), term.Tuple(term.Bin([]byte("d")), term.Bin(nil), term.Bin([]byte("d"))),
		nested(api.MaxTree-1, term.Nil()), chain(api.MaxTree/2-1, term.Bin(nil)), leaning(api.MaxTree/2 - 1),
	}
}
