package match

import (
	"slices"

	"tenement/api"
	"tenement/arena"
	"tenement/atoms"
	"tenement/build"
	"tenement/order"
	"tenement/word"
)

// walk goes through two terms side by side, up to where they part. It keeps its own stack, so that deep terms need no deep calls.
type walk struct {
	a       *arena.Arena
	t       *atoms.Table
	in      build.Bytes
	parts   int    // of either term, that have waited so far
	waiting []pair // the last is held first
}

// pair is two words that wait to be held against each other.
type pair struct {
	x, y api.Word
}

// next holds the next two words against each other, but for their items, which it leaves waiting. The second answer is false, where a word means nothing any more.
func (w *walk) next() (int, bool) {
	last := len(w.waiting) - 1
	p := w.waiting[last]
	w.waiting = w.waiting[:last]
	if p.x == p.y { // one word means one term, however great
		return 0, true
	}
	x, itemsX, okX := w.shape(p.x)
	y, itemsY, okY := w.shape(p.y)
	if !okX || !okY {
		return 0, false
	}
	c := order.Compare(x, y)
	if c == 0 {
		return 0, w.wait(itemsX, itemsY)
	}
	return c, true
}

// shape is the term that x means, but with noughts in the place of its items, and the words of these beside it: order.Compare tells of two shapes all that kinds and lengths tell.
func (w *walk) shape(x api.Word) (api.Term, []api.Word, bool) {
	kind, items := w.open(x)
	if len(items) > 0 {
		return api.Term{Kind: kind, L: make([]api.Term, len(items))}, items, true
	}
	t, ok := build.Get(w.a, w.t, x, w.in)
	return t, nil, ok
}

// open is the kind and the items of the object at which x points; of a word that is no Ptr, or an object without items, there are none.
func (w *walk) open(x api.Word) (int, []api.Word) {
	if word.Tag(x) != word.Ptr {
		return 0, nil
	}
	at := int(word.Value(x))
	head, _ := w.a.Get(at)
	h, ok := word.Read(head)
	if !ok {
		return 0, nil
	}
	items := make([]api.Word, word.Fields(h))
	for i := range items {
		items[i], _ = w.a.Get(at + 1 + i)
	}
	if h.Kind == word.Cons {
		return api.Cons, items
	}
	return api.Tuple, items
}

// wait leaves items for later, the first of them to be held first. A term that build.Get answered has no more than MaxTree parts; but who holds bytes may change the heap when it is asked, and make a circle there: the walk must end then too.
func (w *walk) wait(x, y []api.Word) bool {
	w.parts += len(x)
	if w.parts >= api.MaxTree {
		return false
	}
	for i := range slices.Backward(x) {
		w.waiting = append(w.waiting, pair{x[i], y[i]})
	}
	return true
}
