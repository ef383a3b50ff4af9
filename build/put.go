package build

import (
	"slices"

	"tenement/api"
	"tenement/arena"
	"tenement/atoms"
	"tenement/big"
	"tenement/term"
	"tenement/word"
)

// putting is a term on its way into an arena. It keeps its own stack, so that deep terms need no deep calls.
type putting struct {
	a       *arena.Arena
	t       *atoms.Table
	in      Bytes
	waiting []part     // the last is put first
	words   []api.Word // of what is put, but not yet what it is in
	granted []int      // the handles, in their order
}

// part is a term that waits: for its items, or, with those put, for itself.
type part struct {
	t       api.Term
	itemsIn bool
}

// Put is the word for x, whose objects are put into a.
func Put(a *arena.Arena, t *atoms.Table, x api.Term, in Bytes) (api.Word, api.Errno) {
	if a == nil || t == nil || !term.May(x) {
		return 0, api.ErrArg
	}
	used := a.Used()
	if term.Words(x) > a.Size()-used {
		return 0, api.ErrLimit
	}
	p := &putting{a: a, t: t, in: in, waiting: []part{{t: x}}}
	for len(p.waiting) > 0 {
		if !p.next() {
			p.undo(used)
			return 0, api.ErrLimit
		}
	}
	return p.words[0], api.OK
}

// next puts the part that is next, or lets its items go ahead of it.
func (p *putting) next() bool {
	last := len(p.waiting) - 1
	x := p.waiting[last]
	p.waiting = p.waiting[:last]
	if len(x.t.L) > 0 && !x.itemsIn { // of what may be, none but Tuples and Conses have some
		p.waiting = append(p.waiting, part{x.t, true})
		for _, item := range slices.Backward(x.t.L) {
			p.waiting = append(p.waiting, part{t: item})
		}
		return true
	}
	w, ok := p.one(x.t)
	p.words = append(p.words, w)
	return ok
}

// one puts a term whose items are put.
func (p *putting) one(t api.Term) (api.Word, bool) {
	switch t.Kind {
	case api.Int:
		return p.number(t)
	case api.Atom:
		n, e := p.t.Put(t.Name)
		return word.Of(word.Atom, int64(n)), e == api.OK
	case api.Ref:
		return word.Of(word.Ref, int64(t.N)), true
	case api.Pid:
		return word.Of(word.Pid, int64(t.N)), true
	case api.Tuple:
		return p.around(word.Tuple, len(t.L))
	case api.Cons:
		return p.around(word.Cons, len(t.L))
	case api.Bin:
		return p.bytes(t.B)
	}
	return word.Of(word.Nil, 0), true
}

// number puts an Int: into a word, if it fits one.
func (p *putting) number(t api.Term) (api.Word, bool) {
	a, _ := term.Of(t)
	if n, ok := big.Small(a); ok {
		return word.Of(word.Small, n), true
	}
	limbs := make([]api.Word, len(a.D))
	for i, d := range a.D {
		limbs[i] = api.Word(d)
	}
	return p.object(word.Header{Kind: word.Big, Tree: 1, Neg: a.Neg}, limbs)
}

// around puts an object around the last n words, which are its fields.
func (p *putting) around(kind, n int) (api.Word, bool) {
	first := len(p.words) - n
	fields := p.words[first:]
	p.words = p.words[:first]
	return p.object(word.Header{Kind: kind, Tree: treeOf(p.a, fields)}, fields)
}

// bytes puts a Bin, whose bytes are granted elsewhere: all of what the handle has.
func (p *putting) bytes(b []byte) (api.Word, bool) {
	handle := 0
	if len(b) > 0 {
		n, ok := grant(p.in, b)
		if !ok {
			return 0, false
		}
		handle = n
		p.granted = append(p.granted, handle)
	}
	return p.object(word.Header{Kind: word.Bin, Tree: 1}, []api.Word{api.Word(handle), 0, api.Word(len(b))})
}

// object puts one of these words, with as great a Size.
func (p *putting) object(h word.Header, words []api.Word) (api.Word, bool) {
	h.Size = len(words)
	ptr, ok := Fresh(p.a, h)
	if !ok {
		return 0, false
	}
	at := int(word.Value(ptr)) + 1
	for i, w := range words {
		p.a.Set(at+i, w)
	}
	return ptr, true
}

// undo makes the arena as it was, with so many words used, and gives back what was granted, the last first. Atoms stay: their table takes none out.
func (p *putting) undo(used int) {
	p.a.Cut(used, p.a.Size())
	for _, handle := range slices.Backward(p.granted) {
		drop(p.in, handle)
	}
}
