package build

import (
	"math/rand/v2"
	"slices"
	"strconv"
	"testing"

	"tenement/api"
	"tenement/arena"
	"tenement/atoms"
	"tenement/big"
	"tenement/term"
	"tenement/word"
)

// model is a heap as plainly as it can be told: a row of words, with a call in a call for what is in what.
type model struct {
	words        []api.Word
	names        []string
	first, grant int // handles
	atomRoom     int
	room         int // of bytes, how many may be granted
}

// add puts an object, and answers the Ptr to it.
func (m *model) add(head api.Word, words ...api.Word) api.Word {
	at := len(m.words)
	m.words = append(append(m.words, head), words...)
	return ptr(int64(at))
}

// put answers false where the walk ends.
func (m *model) put(x api.Term) (api.Word, bool) {
	switch x.Kind {
	case api.Int:
		n, _ := term.Of(x)
		if v, ok := big.Small(n); ok {
			return small(v), true
		}
		var limbs []api.Word
		for _, d := range n.D {
			limbs = append(limbs, api.Word(d))
		}
		if n.Neg {
			return m.add(minus(word.Big, len(limbs), 1), limbs...), true
		}
		return m.add(head(word.Big, len(limbs), 1), limbs...), true
	case api.Atom:
		i := slices.Index(m.names, x.Name)
		if i < 0 {
			m.names = append(m.names, x.Name)
			i = len(m.names) - 1
		}
		return atomOf(int64(i)), true
	case api.Pid:
		return word.Of(word.Pid, int64(x.N)), true
	case api.Ref:
		return word.Of(word.Ref, int64(x.N)), true
	case api.Bin:
		handle := 0
		if len(x.B) > 0 {
			if m.grant == m.room {
				return 0, false
			}
			handle = m.first + m.grant
			m.grant++
		}
		return m.add(head(word.Bin, 3, 1), api.Word(handle), 0, api.Word(len(x.B))), true
	case api.Tuple, api.Cons:
		var list []api.Word
		for _, y := range x.L {
			w, ok := m.put(y)
			if !ok {
				return 0, false
			}
			list = append(list, w)
		}
		kind := word.Tuple
		if x.Kind == api.Cons {
			kind = word.Cons
		}
		return m.add(head(kind, len(list), term.Tree(x)), list...), true
	}
	return nilWord(), true
}

// get reads a word, where no circle is: deep is how deep it may go.
func (m *model) get(w api.Word, b *bag, deep int) (api.Term, bool) {
	v := word.Value(w)
	switch word.Tag(w) {
	case word.Small:
		return term.Int(v), true
	case word.Atom:
		if v < 0 || v >= int64(len(m.names)) {
			return api.Term{}, false
		}
		return term.Atom(m.names[v]), true
	case word.Pid, word.Ref:
		x := term.Pid(int(v))
		if word.Tag(w) == word.Ref {
			x = term.Ref(int(v))
		}
		return x, term.May(x)
	case word.Nil:
		return term.Nil(), v == 0
	case word.Ptr:
		if v < 0 || v >= int64(len(m.words)) || deep == 0 {
			return api.Term{}, false
		}
		return m.object(m.words[v:], b, deep)
	}
	return api.Term{}, false
}

// object reads the object with which these words begin. Only what may be, and is written as it is put, is one.
func (m *model) object(words []api.Word, b *bag, deep int) (api.Term, bool) {
	h, ok := word.Read(words[0])
	if !ok || len(words) < 1+h.Size {
		return api.Term{}, false
	}
	words = words[1 : 1+h.Size]
	x := api.Term{Kind: api.Tuple}
	switch {
	case h.Kind == word.Cons && h.Size == 2, h.Kind == word.Tuple:
		if h.Kind == word.Cons {
			x.Kind = api.Cons
		}
		for _, w := range words {
			y, ok := m.get(w, b, deep-1)
			if !ok {
				return api.Term{}, false
			}
			x.L = append(x.L, y)
		}
	case h.Kind == word.Big:
		x = api.Term{Neg: h.Neg}
		for _, w := range words {
			if uint64(w)>>32 != 0 {
				return api.Term{}, false
			}
			x.D = append(x.D, uint32(w))
		}
		if term.Words(x) != 1+h.Size {
			return api.Term{}, false
		}
	case h.Kind == word.Bin && h.Size == 3:
		x = api.Term{Kind: api.Bin}
		if n := int(words[2]); n != 0 {
			got, ok := b.Look(int(words[0]), int(words[1]), n)
			if !ok {
				return api.Term{}, false
			}
			x.B = got
		}
		if int(words[1]) < 0 {
			return api.Term{}, false
		}
	default:
		return api.Term{}, false
	}
	return x, term.May(x) && term.Tree(x) == h.Tree && (x.Kind == api.Int || !h.Neg)
}

// drawn is a term of chance that may be.
func drawn(draw *rand.Rand, deep int) api.Term {
	kind := draw.IntN(10)
	if deep == 0 && kind > 5 {
		kind -= 5
	}
	switch kind {
	case 0:
		return term.Int(draw.Int64() >> draw.IntN(64))
	case 1:
		d := make([]uint32, draw.IntN(5))
		for i := range d {
			d[i] = draw.Uint32()
		}
		return term.Num(big.Num{Neg: draw.IntN(2) == 0, D: d})
	case 2:
		return term.Atom(strconv.Itoa(draw.IntN(9)))
	case 3:
		return term.Pid(draw.IntN(1<<30 + 1))
	case 4:
		return term.Ref(draw.IntN(1<<30 + 1))
	case 5:
		return term.Bin([]byte("hello")[:draw.IntN(6)])
	case 6:
		return term.Cons(drawn(draw, deep-1), drawn(draw, deep-1))
	}
	var l []api.Term
	for range draw.IntN(5) {
		l = append(l, drawn(draw, deep-1))
	}
	if kind == 7 {
		return term.List(l...)
	}
	return term.Tuple(l...)
}

// step puts one term and holds what comes of it against the model.
func step(t *testing.T, draw *rand.Rand, a *arena.Arena, n *atoms.Table, b *bag, m *model) {
	t.Helper()
	x := drawn(draw, draw.IntN(5))
	was := model{words: slices.Clone(m.words)}
	want, wanted := api.Word(0), api.ErrLimit
	if term.Words(x) <= a.Size()-len(m.words) {
		granted := m.grant
		w, ok := m.put(x)
		if ok {
			want, wanted = w, api.OK
		} else {
			m.words = was.words
			m.grant = granted
		}
	}
	w, e := Put(a, n, x, b)
	b.rows = b.rows[:m.grant] // what is dropped, the last first, is granted anew
	if w != want || e != wanted {
		t.Fatalf("%+v: %x, %v, want %x, %v", x, w, e, want, wanted)
	}
	fit(t, "of chance", a, m.words...)
	if e == api.OK {
		got, ok := Get(a, n, w, b)
		if !ok || !term.Same(got, x) || Tree(a, w) != term.Tree(x) || a.Used()-len(was.words) != term.Words(x) {
			t.Fatalf("%+v is read as %+v, %v", x, got, ok)
		}
	}
	if _, ok := a.Objects(); !ok || n.Len() != len(m.names) {
		t.Fatalf("no row of objects, or %d names, not %d", n.Len(), len(m.names))
	}
}

// P9.1, P9.3: many terms in a row, held against the model behind each.
func TestPutAgainstModel(t *testing.T) {
	for seed := range uint64(300) {
		draw := rand.New(rand.NewPCG(seed, 9))
		room := draw.IntN(30)
		a, n, b, m := arena.New(draw.IntN(400)), atoms.New(), &bag{first: 1, room: room}, &model{first: 1, room: room}
		for range 40 {
			step(t, draw, a, n, b, m)
		}
		for i, name := range m.names {
			if got, _ := n.Name(i); got != name {
				t.Fatalf("name %d is %s, want %s", i, got, name)
			}
		}
	}
}

// spoilt is a word that stands near what belongs there.
func spoilt(draw *rand.Rand, w api.Word, words []api.Word) api.Word {
	switch draw.IntN(6) {
	case 0:
		return w ^ 1<<draw.IntN(64)
	case 1:
		return words[draw.IntN(len(words))]
	case 2:
		return ptr(int64(draw.IntN(len(words)+2) - 1))
	case 3:
		return head(draw.IntN(4), draw.IntN(5), draw.IntN(8))
	case 4:
		return w + api.Word(draw.IntN(3)-1)<<(4*draw.IntN(2))
	}
	return api.Word(draw.IntN(16))
}

// P9.2: heaps of chance, some words of which are spoilt, held against the model: every word in them, and Ptrs to every place.
func TestGetAgainstModel(t *testing.T) {
	read, refused := 0, 0
	for seed := range uint64(3000) {
		draw := rand.New(rand.NewPCG(seed, 10))
		a, n, b, m := arena.New(120), atoms.New(), &bag{first: 1, room: 99}, &model{first: 1, room: 99}
		for range 4 {
			step(t, draw, a, n, b, m)
		}
		for range draw.IntN(4) {
			if len(m.words) > 0 {
				at := draw.IntN(len(m.words))
				m.words[at] = spoilt(draw, m.words[at], m.words)
				a.Set(at, m.words[at])
			}
		}
		asked := slices.Clone(m.words)
		for at := -1; at <= len(m.words); at++ {
			asked = append(asked, ptr(int64(at)))
		}
		for _, w := range asked {
			want, wanted := m.get(w, b, 12)
			got, ok := Get(a, n, w, b)
			if ok != wanted || ok && !term.Same(got, want) {
				t.Fatalf("seed %d, %x: %x: %+v, %v, want %+v, %v", seed, m.words, w, got, ok, want, wanted)
			}
			if ok {
				read++
			} else {
				refused++
			}
		}
	}
	if read < 10000 || refused < 10000 {
		t.Errorf("%d are read, %d refused: too few to tell", read, refused)
	}
}
