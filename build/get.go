package build

import (
	"math"
	"slices"

	"tenement/api"
	"tenement/arena"
	"tenement/atoms"
	"tenement/big"
	"tenement/term"
	"tenement/word"
)

// maxNumber is the greatest number that a Pid or a Ref may have.
const maxNumber = 1 << 30

// getting is a word on its way to a term. It keeps its own stack, so that deep terms need no deep calls.
type getting struct {
	a       *arena.Arena
	t       *atoms.Table
	in      Bytes
	parts   int        // met so far; those that are shared count each time
	waiting []visit    // the last is read first
	terms   []api.Term // that are read, but not yet what they are in
}

// visit is a word that waits to be read, or an object of that kind whose items, so many, are read ahead of it.
type visit struct {
	w           api.Word
	object      bool
	kind, items int
}

// Get is the term that w stands for.
func Get(a *arena.Arena, t *atoms.Table, w api.Word, in Bytes) (api.Term, bool) {
	if a == nil || t == nil {
		return api.Term{}, false
	}
	g := &getting{a: a, t: t, in: in, parts: 1, waiting: []visit{{w: w}}}
	for len(g.waiting) > 0 {
		if !g.next() {
			return api.Term{}, false
		}
	}
	return g.terms[0], true
}

// next reads what is next, or lets its items go ahead of it.
func (g *getting) next() bool {
	last := len(g.waiting) - 1
	v := g.waiting[last]
	g.waiting = g.waiting[:last]
	if v.object {
		g.around(v.kind, v.items)
		return true
	}
	if word.Tag(v.w) == word.Ptr {
		return g.object(v.w)
	}
	return g.read(g.plain(v.w))
}

// read keeps a term for what it is in.
func (g *getting) read(t api.Term, ok bool) bool {
	g.terms = append(g.terms, t)
	return ok
}

// around makes a term of the last n terms, which are its items.
func (g *getting) around(kind, n int) {
	first := len(g.terms) - n
	list := append([]api.Term(nil), g.terms[first:]...)
	g.terms = append(g.terms[:first], api.Term{Kind: kind, L: list})
}

// plain is the term of a word that is no Ptr.
func (g *getting) plain(w api.Word) (api.Term, bool) {
	n := word.Value(w)
	switch word.Tag(w) {
	case word.Small:
		return term.Int(n), true
	case word.Atom:
		name, ok := g.t.Name(int(n))
		return term.Atom(name), ok
	case word.Pid:
		return term.Pid(int(n)), 0 <= n && n <= maxNumber
	case word.Ref:
		return term.Ref(int(n)), 0 <= n && n <= maxNumber
	case word.Nil:
		return term.Nil(), n == 0
	}
	return api.Term{}, false
}

// object reads the object at which w points, but for its items, which it lets go ahead of it.
func (g *getting) object(w api.Word) bool {
	h, at, ok := find(g.a, w)
	if !ok || !sized(h) || h.Size > g.a.Used()-at {
		return false
	}
	words := g.words(at, h.Size)
	if h.Tree != treeOf(g.a, words[:word.Fields(h)]) || h.Neg && h.Kind != word.Big {
		return false
	}
	switch h.Kind {
	case word.Big:
		return g.read(number(h.Neg, words))
	case word.Bin:
		return g.read(g.bytes(words))
	case word.Cons:
		return g.items(api.Cons, words)
	}
	return g.items(api.Tuple, words)
}

// sized tells whether a term of that kind takes as many words as the header says.
func sized(h word.Header) bool {
	switch h.Kind {
	case word.Cons:
		return h.Size == 2
	case word.Tuple:
		return h.Size <= api.MaxTuple
	case word.Big:
		return h.Size <= api.MaxLimbs
	}
	return h.Size == 3
}

// words are n of the arena's from at on.
func (g *getting) words(at, n int) []api.Word {
	list := make([]api.Word, n)
	for i := range list {
		list[i], _ = g.a.Get(at + i)
	}
	return list
}

// number is the Int of these limbs; false, where an Int would be written otherwise, or fit a word.
func number(neg bool, limbs []api.Word) (api.Term, bool) {
	a := big.Num{Neg: neg}
	for _, w := range limbs {
		if w > math.MaxUint32 {
			return api.Term{}, false
		}
		a.D = append(a.D, uint32(w))
	}
	_, small := big.Small(a)
	return term.Num(a), !small && a.D[len(a.D)-1] != 0
}

// bytes is the Bin of these words: a handle, which may be any that was granted, a place and a length.
func (g *getting) bytes(words []api.Word) (api.Term, bool) {
	handle, at, n := int(words[0]), int(words[1]), int(words[2])
	if at < 0 || n < 0 || n > api.MaxBin {
		return api.Term{}, false
	}
	if n == 0 {
		return term.Bin(nil), true
	}
	b, ok := look(g.in, handle, at, n)
	return term.Bin(b), ok
}

// items lets an object's items, the first of them first, go ahead of it. They are counted here already, so that a circle of wide objects does not fill memory.
func (g *getting) items(kind int, words []api.Word) bool {
	g.parts += len(words)
	if g.parts > api.MaxTree {
		return false
	}
	g.waiting = append(g.waiting, visit{object: true, kind: kind, items: len(words)})
	for _, w := range slices.Backward(words) {
		g.waiting = append(g.waiting, visit{w: w})
	}
	return true
}
