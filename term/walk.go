package term

import (
	"bytes"
	"strings"

	"tenement/api"
	"tenement/big"
)

// pruned is t with what its kind uses, and nothing else, on t's own memory. A kind that there is not is Nil.
func pruned(t api.Term) api.Term {
	switch t.Kind {
	case api.Int:
		return api.Term{Kind: t.Kind, Neg: t.Neg, D: t.D}
	case api.Atom:
		return api.Term{Kind: t.Kind, Name: t.Name}
	case api.Ref, api.Pid:
		return api.Term{Kind: t.Kind, N: t.N}
	case api.Tuple, api.Cons:
		return api.Term{Kind: t.Kind, L: t.L}
	case api.Bin:
		return api.Term{Kind: t.Kind, B: t.B}
	}
	return Nil()
}

// every asks t and each part of it, those ahead first, till one does not hold. Its stack has rows of parts that wait, none of them empty, so that a long list does not make it deep.
func every(t api.Term, holds func(part api.Term) bool) bool {
	waiting := [][]api.Term{{t}}
	for len(waiting) > 0 {
		last := len(waiting) - 1
		row := waiting[last]
		waiting = waiting[:last]
		if len(row) > 1 {
			waiting = append(waiting, row[1:])
		}
		if !holds(row[0]) {
			return false
		}
		if parts := pruned(row[0]).L; len(parts) > 0 {
			waiting = append(waiting, parts)
		}
	}
	return true
}

// pair are two rows of parts, equally long, that are held against each other.
type pair struct {
	a, b []api.Term
}

// Same tells whether a and b are of one kind and alike in what it uses.
func Same(a, b api.Term) bool {
	waiting := []pair{{[]api.Term{a}, []api.Term{b}}}
	for len(waiting) > 0 {
		last := len(waiting) - 1
		rows := waiting[last]
		waiting = waiting[:last]
		if len(rows.a) > 1 {
			waiting = append(waiting, pair{rows.a[1:], rows.b[1:]})
		}
		x, y := pruned(rows.a[0]), pruned(rows.b[0])
		if !alike(x, y) {
			return false
		}
		if len(x.L) > 0 {
			waiting = append(waiting, pair{x.L, y.L})
		}
	}
	return true
}

// alike tells whether two pruned parts are the same, but for their own parts. Ints go by their numbers: noughts at the end do not count.
func alike(a, b api.Term) bool {
	return a.Kind == b.Kind && a.Name == b.Name && a.N == b.N && len(a.L) == len(b.L) &&
		bytes.Equal(a.B, b.B) && big.Compare(number(a), number(b)) == 0
}

// Copy is t on new memory.
func Copy(t api.Term) api.Term {
	return copies([]api.Term{t})[0]
}

// copies are these terms on new memory, also where they share theirs.
func copies(l []api.Term) []api.Term {
	all := append([]api.Term(nil), l...)
	waiting := [][]api.Term{all} // rows of the copy whose terms are not detached yet
	for len(waiting) > 0 {
		last := len(waiting) - 1
		row := waiting[last]
		waiting = waiting[:last]
		for i, t := range row {
			row[i] = detached(t)
			if len(row[i].L) > 0 {
				waiting = append(waiting, row[i].L)
			}
		}
	}
	return all
}

// detached is t, pruned, with lists of its own; the parts in them still lie where they lay.
func detached(t api.Term) api.Term {
	t = pruned(t)
	t.D = append([]uint32(nil), t.D...)
	t.Name = strings.Clone(t.Name)
	t.L = append([]api.Term(nil), t.L...)
	t.B = append([]byte(nil), t.B...)
	return t
}
