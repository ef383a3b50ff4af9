package order

import (
	"bytes"
	"cmp"

	"tenement/api"
	"tenement/big"
	"tenement/runes"
)

// rows are parts of either term, a row of each, that wait to be held against each other.
type rows struct {
	a, b []api.Term
}

// walk goes through two terms side by side. It keeps its own stack, so that deep terms need no deep calls.
type walk struct {
	a, b    api.Term                // the parts at hand, of one kind
	waiting []rows                  // the last are looked at first
	kinds   [api.Bin + 1]func() int // how the parts at hand are compared, by their kind
}

// newWalk is a walk that can be taken again and again.
func newWalk() *walk {
	w := &walk{}
	w.kinds = [...]func() int{
		api.Int:   w.ints,
		api.Atom:  w.atoms,
		api.Ref:   w.numbers,
		api.Pid:   w.numbers,
		api.Tuple: w.tuples,
		api.Nil:   w.nils,
		api.Cons:  w.conses,
		api.Bin:   w.bins,
	}
	return w
}

// compare holds a against b: -1, 0 or 1.
func (w *walk) compare(a, b api.Term) int {
	w.waiting = append(w.waiting[:0], rows{[]api.Term{a}, []api.Term{b}})
	found := 0
	for found == 0 && len(w.waiting) > 0 {
		found = w.next()
	}
	return found
}

// next holds the next two parts against each other, but for their own parts, which it leaves waiting.
func (w *walk) next() int {
	last := len(w.waiting) - 1
	row := w.waiting[last]
	w.waiting = w.waiting[:last]
	if len(row.a) == 0 || len(row.b) == 0 {
		return cmp.Compare(len(row.a), len(row.b))
	}
	w.wait(row.a[1:], row.b[1:])
	w.a, w.b = row.a[0], row.b[0]
	kind, other := kindOf(w.a), kindOf(w.b)
	if kind != other {
		return cmp.Compare(kind, other)
	}
	return w.kinds[kind]()
}

// wait leaves two rows for later. Those at their end are left out, so that a long list does not make the stack deep.
func (w *walk) wait(a, b []api.Term) {
	if len(a) > 0 || len(b) > 0 {
		w.waiting = append(w.waiting, rows{a, b})
	}
}

// kindOf is t's kind; one that there is not is as Nil.
func kindOf(t api.Term) int {
	if t.Kind < api.Int || t.Kind > api.Bin {
		return api.Nil
	}
	return t.Kind
}

func (w *walk) ints() int {
	return big.Compare(number(w.a), number(w.b))
}

// number is an Int's number on its own limbs: for looking at.
func number(t api.Term) big.Num {
	return big.Num{Neg: t.Neg, D: t.D}
}

func (w *walk) atoms() int {
	return runes.Less(w.a.Name, w.b.Name)
}

func (w *walk) numbers() int {
	return cmp.Compare(w.a.N, w.b.N)
}

// tuples go by how many items they have; only those of like length have items that count.
func (w *walk) tuples() int {
	if len(w.a.L) == len(w.b.L) {
		w.wait(w.a.L, w.b.L)
	}
	return cmp.Compare(len(w.a.L), len(w.b.L))
}

func (w *walk) nils() int {
	return 0
}

// conses go by their heads, then their tails. One that may not be, with fewer or more items, goes on in that way: what ends first is less.
func (w *walk) conses() int {
	w.wait(w.a.L, w.b.L)
	return 0
}

func (w *walk) bins() int {
	return bytes.Compare(w.a.B, w.b.B)
}
