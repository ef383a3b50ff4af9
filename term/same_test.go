package term

import (
	"math/rand/v2"
	"reflect"
	"slices"
	"strings"
	"testing"
	"unsafe"

	"tenement/api"
	"tenement/big"
)

// varied are terms that may be, no two of them the same.
func varied() []api.Term {
	return []api.Term{
		Int(0), Int(1), Int(-1), Int(2), Int(1 << 32), Num(big.Num{D: limbs(64)}), Num(big.Num{Neg: true, D: limbs(64)}), Num(big.Num{D: limbs(63)}),
		Atom(""), Atom("a"), Atom("b"), Atom("ab"), Atom("A"), Atom("é"), Atom("e\u0301"),
		Pid(0), Pid(1), Pid(1 << 30), Ref(0), Ref(1), Ref(1 << 30),
		Nil(), Tuple(), Tuple(Nil()), Tuple(Nil(), Nil()), Tuple(Int(1), Nil()), Tuple(Nil(), Int(1)), Tuple(Tuple()), Tuple(Tuple(Tuple())), Tuple(Tuple(), Tuple()),
		Cons(Nil(), Nil()), Cons(Int(1), Nil()), Cons(Nil(), Int(1)), List(Int(1), Int(2)), List(Int(2), Int(1)), List(Int(1), Int(2), Int(3)), Cons(Int(1), Int(2)), List(List(Int(1)), Int(2)), List(List(Int(1), Int(2))),
		Bin(nil), Bin([]byte{0}), Bin([]byte{0, 0}), Bin([]byte{1, 0}), Bin([]byte{0, 1}),
		nested(60000, Nil()), nested(60000, Tuple()), nested(59999, Nil()), chain(30000, Nil()), chain(30000, Int(1)), chain(29999, Nil()), leaning(30000), rows(200),
	}
}

// P5.2: Same of each with each, made anew.
func TestSame(t *testing.T) {
	all, others := varied(), varied()
	for i, a := range all {
		for j, b := range others {
			if got := Same(a, b); got != (i == j) {
				t.Errorf("Same of %d and %d is %v", i, j, got)
			}
		}
	}
}

// P5.2: terms that differ in one place alone, wherever that lies.
func TestSameLooksEverywhere(t *testing.T) {
	for n := range 20 {
		a, b := make([]api.Term, 20), make([]api.Term, 20)
		b[n] = Int(5)
		for _, in := range []func(...api.Term) api.Term{Tuple, List} {
			if x, y := in(a...), in(b...); Same(x, y) || Same(y, x) || Same(Tuple(x, Nil()), Tuple(y, Nil())) {
				t.Errorf("a difference at %d is not seen", n)
			}
		}
		x, y := make([]byte, 20), make([]byte, 20)
		y[n] = 1
		if Same(Bin(x), Bin(y)) {
			t.Errorf("a byte at %d is not seen", n)
		}
	}
}

// P5.2, behind R7: Same of terms that may not be: what a kind does not use does not count, a kind that is none is Nil, an Int is its number.
func TestSameOfWrongTerms(t *testing.T) {
	for _, k := range kinds() {
		for name, x := range stuffed(plain(k)) {
			if !Same(plain(k), x) || !Same(x, plain(k)) || !Same(Tuple(x), Tuple(plain(k))) {
				t.Errorf("kind %d: %s counts", k, name)
			}
		}
		for _, n := range none() {
			x := plain(k)
			x.Kind = n
			if got := Same(x, plain(k)); got != (k == api.Nil) {
				t.Errorf("kind %d against %d: %v", n, k, got)
			}
			if !Same(x, Nil()) || !Same(Nil(), x) || !Same(x, api.Term{Kind: -7}) {
				t.Errorf("kind %d is not Nil", n)
			}
		}
	}
	same := [][]api.Term{
		{{}, {Neg: true}, {D: []uint32{}}, {D: []uint32{0}}, {Neg: true, D: []uint32{0, 0}}},
		{{D: []uint32{5}}, {D: []uint32{5, 0}}, {D: []uint32{5, 0, 0}}},
		{{Neg: true, D: []uint32{5}}, {Neg: true, D: []uint32{5, 0}}},
		{{Kind: api.Cons}, {Kind: api.Cons, L: []api.Term{}}},
		{{Kind: api.Cons, L: []api.Term{{}}}},
		{{Kind: api.Cons, L: []api.Term{{}, {}}}},
		{{Kind: api.Cons, L: []api.Term{{}, {}, {}}}},
		{{Kind: api.Tuple, L: make([]api.Term, 300)}},
		{{Kind: api.Tuple, L: make([]api.Term, 301)}},
		{{Kind: api.Atom, Name: "\xff"}},
		{{Kind: api.Atom, Name: "\ufffd"}},
		{{Kind: api.Pid, N: -1}},
		{{Kind: api.Pid, N: 1 << 40}},
	}
	for i, as := range same {
		for j, bs := range same {
			for _, a := range as {
				for _, b := range bs {
					if got := Same(a, b); got != (i == j) {
						t.Errorf("Same(%+v, %+v) is %v", a, b, got)
					}
				}
			}
		}
	}
}

// P5.2: a copy is as it was.
func TestCopy(t *testing.T) {
	for _, x := range append(varied(), nested(80000, Nil()), api.Term{Kind: api.Cons, L: []api.Term{Int(1)}}, api.Term{Kind: api.Cons, L: []api.Term{Int(1), Nil(), Nil()}}, api.Term{Kind: api.Atom, Name: "\xff"}, api.Term{Neg: true, D: []uint32{5, 0}}, api.Term{Kind: api.Ref, N: -5}) {
		if c := Copy(x); !equal(c, x) {
			t.Errorf("the copy of kind %d differs", x.Kind)
		}
	}
}

// R2, behind R7: in a copy, also in what is made of parts, what a kind does not use is zero, and a kind that is none is Nil.
func TestCopyOfWrongTerms(t *testing.T) {
	check := func(x, want api.Term) {
		t.Helper()
		items, _ := Items(api.Term{Kind: api.Cons, L: []api.Term{x, Nil()}})
		for _, got := range []api.Term{Copy(x), Copy(Tuple(Nil(), x)).L[1], Tuple(x).L[0], Cons(x, Nil()).L[0], Cons(Nil(), x).L[1], List(Nil(), x).L[1].L[0], items[0]} {
			if !reflect.DeepEqual(got, want) {
				t.Errorf("%+v is copied as %+v", x, got)
			}
		}
	}
	for _, k := range kinds() {
		for _, x := range stuffed(plain(k)) {
			check(x, plain(k))
		}
		for _, n := range none() {
			x := plain(k)
			x.Kind = n
			check(x, Nil())
		}
	}
}

// equal holds terms against each other as they are written, with nil and empty lists alike.
func equal(a, b api.Term) bool {
	if a.Kind != b.Kind || a.Neg != b.Neg || a.Name != b.Name || a.N != b.N || !slices.Equal(a.D, b.D) || !slices.Equal(a.B, b.B) {
		return false
	}
	return slices.EqualFunc(a.L, b.L, equal)
}

// span is where a list lies in memory, spare room too.
type span struct {
	from, to uintptr
}

// spans adds those of all lists of a term, and of its names.
func spans(at []span, t api.Term) []span {
	at = add(at, t.D)
	at = add(at, t.B)
	at = add(at, unsafe.Slice(unsafe.StringData(t.Name), len(t.Name)))
	return spansOf(at, t.L)
}

func spansOf(at []span, l []api.Term) []span {
	at = add(at, l)
	for _, x := range l {
		at = spans(at, x)
	}
	return at
}

func add[T any](at []span, l []T) []span {
	if cap(l) == 0 {
		return at
	}
	from := uintptr(unsafe.Pointer(unsafe.SliceData(l)))
	return append(at, span{from, from + uintptr(cap(l))*unsafe.Sizeof(l[:1][0])})
}

// apart tells whether no two of these overlap.
func apart(at []span) bool {
	slices.SortFunc(at, func(a, b span) int { return int(a.from) - int(b.from) })
	for i := 1; i < len(at); i++ {
		if at[i].from < at[i-1].to {
			return false
		}
	}
	return true
}

// spacious is t with room behind each list, which holds what must stay.
func spacious(t api.Term) api.Term {
	t.D = append(slices.Clone(t.D), 11, 22, 33)[:len(t.D)]
	t.B = append(slices.Clone(t.B), 11, 22, 33)[:len(t.B)]
	t.Name = strings.Clone(t.Name)
	l := make([]api.Term, len(t.L), len(t.L)+2)
	for i, x := range t.L {
		l[i] = spacious(x)
	}
	t.L = append(l, Atom("spare"), Int(44))[:len(l)]
	return t
}

// picture is all that can be told of a term, spare room too.
func picture(t api.Term) api.Term {
	t.D = slices.Clone(t.D[:cap(t.D)])
	t.B = slices.Clone(t.B[:cap(t.B)])
	l := make([]api.Term, cap(t.L))
	for i, x := range t.L[:cap(t.L)] {
		l[i] = picture(x)
	}
	t.L = l
	return t
}

// handed are terms with spare room, of each kind, right ones and wrong ones, with stuffed fields among them.
func handed() []api.Term {
	var all []api.Term
	for _, k := range append(kinds(), none()...) {
		all = append(all, plain(k))
		for _, x := range stuffed(plain(k)) {
			all = append(all, x)
		}
	}
	all = append(all, List(Int(1), Tuple(Bin([]byte{1}), Atom("abc"))), Tuple(Tuple(Int(1<<40), List()), Cons(Pid(1), Ref(1))), api.Term{Neg: true, D: []uint32{5, 0, 0}}, api.Term{Kind: api.Cons, L: make([]api.Term, 3)})
	for i := range all {
		all[i] = spacious(all[i])
	}
	return all
}

// answers are the calls that answer terms or lists, each with the memory of its answer.
func answers() map[string]func(a, b api.Term) []span {
	return map[string]func(a, b api.Term) []span{
		"Copy":  func(a, b api.Term) []span { return spans(spans(nil, Copy(a)), Copy(b)) },
		"Cons":  func(a, b api.Term) []span { return spans(nil, Cons(a, b)) },
		"Tuple": func(a, b api.Term) []span { return spans(nil, Tuple(a, b, a)) },
		"List":  func(a, b api.Term) []span { return spans(nil, List(a, b, a)) },
		"Bin":   func(a, b api.Term) []span { return spans(spans(nil, Bin(a.B)), Bin(b.B)) },
		"Num":   func(a, b api.Term) []span { return spans(spans(nil, Num(number(a))), Num(number(b))) },
		"Atom":  func(a, b api.Term) []span { return spans(spans(nil, Atom(a.Name)), Atom(b.Name)) },
		"Of": func(a, b api.Term) []span {
			x, _ := Of(a)
			y, _ := Of(b)
			return add(add(nil, x.D), y.D)
		},
		"Items": func(a, b api.Term) []span {
			l, _ := Items(api.Term{Kind: api.Cons, L: []api.Term{a, {Kind: api.Cons, L: []api.Term{a, b}}}})
			m, _ := Items(b)
			return spansOf(spansOf(nil, l), m)
		},
	}
}

// R4: what is handed in is not changed, spare room too; what is answered is new memory, and no two lists of it share any.
func TestMemory(t *testing.T) {
	all, others := handed(), handed()
	for name, call := range answers() {
		for _, a := range all {
			for _, b := range others {
				wasA, wasB := picture(a), picture(b)
				got := call(a, b)
				if !apart(slices.Clone(got)) {
					t.Fatalf("%s: two lists of an answer share memory", name)
				}
				if !apart(append(spans(spans(nil, a), b), got...)) {
					t.Fatalf("%s answers memory that was handed in", name)
				}
				if !reflect.DeepEqual(picture(a), wasA) || !reflect.DeepEqual(picture(b), wasB) {
					t.Fatalf("%s changes what is handed in", name)
				}
			}
		}
	}
}

// R4: those that answer no list change nothing either.
func TestMemoryOfOthers(t *testing.T) {
	for _, a := range handed() {
		b := spacious(a)
		was, were := picture(a), picture(b)
		May(a)
		Tree(a)
		Words(a)
		Same(a, b)
		Same(a, a)
		if !reflect.DeepEqual(picture(a), was) || !reflect.DeepEqual(picture(b), were) {
			t.Fatalf("%+v is changed", a)
		}
	}
}

// R4: the list that a Tuple or a List is made of is neither changed nor kept, nor its spare room.
func TestListsOfMakers(t *testing.T) {
	for name, in := range map[string]func(...api.Term) api.Term{"Tuple": Tuple, "List": List} {
		l := []api.Term{Int(1), Bin([]byte{2}), Atom("spare")}
		got := in(l[:2]...)
		if !equal(l[2], Atom("spare")) || !apart(spans(spansOf(nil, l), got)) {
			t.Errorf("%s writes behind the list, or answers it", name)
		}
		was := picture(got)
		l[0] = Nil()
		l[1].B[0] = 9
		if !reflect.DeepEqual(picture(got), was) {
			t.Errorf("%s keeps the list", name)
		}
	}
}

// R5: what was answered once does not hang on an answer that was written over.
func TestNothingKept(t *testing.T) {
	for _, make := range []func() api.Term{
		func() api.Term { return Int(77) },
		func() api.Term { return Bin([]byte{1, 2}) },
		func() api.Term { return Tuple(Int(1), Nil()) },
		func() api.Term { return List(Int(1), Nil()) },
		func() api.Term { return Cons(Int(1), Nil()) },
	} {
		first := make()
		was := picture(first)
		clear(first.D[:cap(first.D)])
		clear(first.B[:cap(first.B)])
		clear(first.L[:cap(first.L)])
		if !reflect.DeepEqual(picture(make()), was) {
			t.Errorf("kind %d is answered twice", first.Kind)
		}
	}
}

// drawn is a term of chance, some of them with things that may not be.
func drawn(draw *rand.Rand, deep int) api.Term {
	kind := draw.IntN(8)
	if deep == 0 && (kind == api.Tuple || kind == api.Cons) {
		kind = api.Nil
	}
	t := api.Term{Kind: kind}
	switch kind {
	case api.Int:
		t.Neg = draw.IntN(2) == 0
		for range draw.IntN(4) {
			t.D = append(t.D, uint32(draw.IntN(3))*0x7000000)
		}
	case api.Atom:
		t.Name = []string{"", "a", "é", "\xff", strings.Repeat("x", 255), strings.Repeat("x", 256)}[draw.IntN(6)]
	case api.Ref, api.Pid:
		t.N = []int{-1, 0, 5, 1 << 30, 1<<30 + 1}[draw.IntN(5)]
	case api.Tuple:
		for range draw.IntN(4) {
			t.L = append(t.L, drawn(draw, deep-1))
		}
	case api.Cons:
		for range 2 + draw.IntN(12)/11 {
			t.L = append(t.L, drawn(draw, deep-1))
		}
	case api.Bin:
		t.B = make([]byte, []int{0, 1, 2, 4096, 4097}[draw.IntN(5)])
	}
	switch draw.IntN(30) {
	case 0:
		t.Kind = draw.IntN(12) - 2
	case 1:
		t.N = 4
	case 2:
		t.Name += "y"
	case 3:
		t.B = append(t.B, 1)
	}
	return t
}

// model is a term told as plainly as it can be: its kind, its own worth as a text, its parts.
type model struct {
	kind        int
	worth       string
	parts       []model
	words, tree int
	may         bool
}

func modelOf(t api.Term) model {
	m := model{kind: t.Kind, tree: 1, may: true}
	unused := t
	unused.Kind = 0
	switch t.Kind {
	case api.Int:
		n := big.Num{Neg: t.Neg, D: t.D}
		m.worth = big.Text(n)
		if _, small := big.Small(n); !small {
			m.words = 1 + len(big.Norm(n).D)
		}
		m.may = len(t.D) <= 64 && (len(t.D) == 0 && !t.Neg || len(t.D) > 0 && t.D[len(t.D)-1] != 0)
		unused.Neg, unused.D = false, nil
	case api.Atom:
		m.worth = t.Name
		m.may = strings.ToValidUTF8(t.Name, "") == t.Name && len([]rune(t.Name)) <= 255
		unused.Name = ""
	case api.Ref, api.Pid:
		m.worth = big.Text(big.Of(int64(t.N)))
		m.may = t.N >= 0 && t.N <= 1<<30
		unused.N = 0
	case api.Tuple:
		m.words = 1 + len(t.L)
		m.may = len(t.L) <= 255
	case api.Cons:
		m.words = 3
		m.may = len(t.L) == 2
	case api.Nil:
	case api.Bin:
		m.words = 4
		m.worth = string(t.B)
		m.may = len(t.B) <= 4096
		unused.B = nil
	default:
		m.kind, m.may = api.Nil, false
	}
	if t.Kind == api.Tuple || t.Kind == api.Cons {
		for _, x := range t.L {
			p := modelOf(x)
			m.parts = append(m.parts, p)
			m.words += p.words
			m.tree += p.tree
			m.may = m.may && p.may
		}
		unused.L = nil
	}
	m.may = m.may && !unused.Neg && unused.Name == "" && unused.N == 0 && len(unused.D)+len(unused.B)+len(unused.L) == 0
	return m
}

// same tells whether two models are of one worth all through.
func (m model) same(o model) bool {
	return m.kind == o.kind && m.worth == o.worth && slices.EqualFunc(m.parts, o.parts, model.same)
}

// items are a list's, by the chapter's sentence.
func (m model) items() ([]model, bool) {
	if m.kind == api.Nil {
		return nil, true
	}
	if m.kind != api.Cons || len(m.parts) != 2 {
		return nil, false
	}
	l, ok := m.parts[1].items()
	return append([]model{m.parts[0]}, l...), ok
}

// P5.1, P5.2, P5.3: terms of chance, held against the model.
func TestAgainstModel(t *testing.T) {
	draw := rand.New(rand.NewPCG(5, 5))
	last := Nil()
	for range 30000 {
		x := drawn(draw, draw.IntN(5))
		m := modelOf(x)
		if May(x) != m.may || Tree(x) != m.tree || Words(x) != m.words {
			t.Fatalf("%+v: May %v, Tree %d, Words %d, want %v, %d, %d", x, May(x), Tree(x), Words(x), m.may, m.tree, m.words)
		}
		if !Same(x, x) || !Same(x, Copy(x)) || !modelOf(Copy(x)).same(m) || May(x) && !equal(x, Copy(x)) {
			t.Fatalf("%+v is not as its copy", x)
		}
		if got := Same(x, last); got != m.same(modelOf(last)) {
			t.Fatalf("Same(%+v, %+v) is %v", x, last, got)
		}
		items, ok := Items(x)
		want, is := m.items()
		if ok != is || is && len(items) != len(want) || !is && len(items) != 0 {
			t.Fatalf("Items(%+v) is %v, %v", x, items, ok)
		}
		for i, y := range items {
			if !modelOf(y).same(want[i]) {
				t.Fatalf("Items(%+v) is %v", x, items)
			}
		}
		last = x
	}
}

// P5.2: a list's items make it again, and what a list was made of are its items.
func TestListAndItems(t *testing.T) {
	draw := rand.New(rand.NewPCG(6, 6))
	for range 2000 {
		var l []api.Term
		for range draw.IntN(6) {
			l = append(l, drawn(draw, 2))
		}
		x := List(l...)
		items, ok := Items(x)
		if !ok || !slices.EqualFunc(items, l, Same) || !Same(List(items...), x) || !Same(Tuple(items...), Tuple(l...)) {
			t.Fatalf("%+v: %+v, %v", l, items, ok)
		}
	}
}
