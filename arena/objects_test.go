package arena

import (
	"math"
	"slices"
	"testing"

	"tenement/api"
	"tenement/word"
)

// Headers of objects: a Cons, an empty Tuple, a Tuple of three, a Big of two limbs, a Bin.
var (
	cons   = word.Make(word.Header{Kind: word.Cons, Size: 2, Tree: 3})
	empty  = word.Make(word.Header{Kind: word.Tuple, Tree: 1})
	triple = word.Make(word.Header{Kind: word.Tuple, Size: 3, Tree: 4})
	limbs  = word.Make(word.Header{Kind: word.Big, Size: 2, Tree: 1, Neg: true})
	bin    = word.Make(word.Header{Kind: word.Bin, Size: 3, Tree: 1})
)

// header is that of an object of the size, of kinds that change with it: the kind does not count.
func header(size int) api.Word {
	return word.Make(word.Header{Kind: size % 4, Size: size, Tree: size % 7, Neg: size%3 == 1})
}

// objects holds the places against those wanted, and looks that asking changed nothing.
func objects(t *testing.T, a *Arena, places ...int) {
	t.Helper()
	size, words := a.Size(), a.Words()
	if got, ok := a.Objects(); !slices.Equal(got, places) || !ok {
		t.Errorf("Objects of %x are %v, %v, want %v", words, got, ok, places)
	}
	holds(t, a, size, words...)
}

// noRow asks an arena that is no row of objects. R2: then there are no places, not even those ahead of the fault.
func noRow(t *testing.T, a *Arena) {
	t.Helper()
	size, words := a.Size(), a.Words()
	if got, ok := a.Objects(); len(got) > 0 || ok {
		t.Errorf("Objects of %x are %v, %v, want none", words, got, ok)
	}
	holds(t, a, size, words...)
}

// P8.1 Objects: no words are a row of no objects.
func TestNoObjects(t *testing.T) {
	objects(t, New(0))
	objects(t, New(7))
	objects(t, New(-1))
	a := of(t, 4, 9, 9)
	cut(t, a, 0, 4, true)
	objects(t, a)
}

// P8.1 Objects: one object that is all that is used, with words behind it that are not.
func TestOneObject(t *testing.T) {
	for _, size := range []int{0, 1, 2, 3, 4, 64, 255, 1000} {
		for _, more := range []int{0, 1, 5} {
			a := of(t, 1+size+more, append([]api.Word{header(size)}, make([]api.Word, size)...)...)
			objects(t, a, 0)
		}
	}
}

// P8.1 Objects: many, one behind the other, each as its Size says.
func TestManyObjects(t *testing.T) {
	objects(t, of(t, 9, cons, 0, 0, empty), 0, 3)
	objects(t, of(t, 9, empty, empty, empty), 0, 1, 2)
	objects(t, of(t, 20, triple, 1, 2, 3, empty, limbs, 0, 0, bin, 4, 5, 6, cons, 7, 8), 0, 4, 5, 8, 12)
	var words []api.Word
	var places []int
	for n := range 300 {
		places = append(places, len(words))
		words = append(words, header(n%17))
		words = append(words, make([]api.Word, n%17)...)
	}
	objects(t, of(t, len(words), words...), places...)
}

// P8.1 Objects: how long an object is its Size alone says, not its Kind, nor how many of its words are terms.
func TestSizesAlone(t *testing.T) {
	for kind := word.Cons; kind <= word.Bin; kind++ {
		for size := range 6 {
			h := word.Make(word.Header{Kind: kind, Size: size, Tree: 9, Neg: true})
			words := append([]api.Word{h}, make([]api.Word, size)...)
			objects(t, of(t, 30, append(words, empty)...), 0, size+1)
		}
	}
}

// P8.1 Objects: words behind a header are its own, though they look like headers.
func TestHeadersInObjects(t *testing.T) {
	objects(t, of(t, 9, triple, cons, empty, triple, empty), 0, 4)
	objects(t, of(t, 9, limbs, word.Of(word.Head, -1), 15, cons, 0, 0), 0, 3)
}

// P8.1 Objects: a Size ends just at Used, or goes past it: by one, by many, into words that the arena has, from any object.
func TestLastObject(t *testing.T) {
	for _, ahead := range [][]api.Word{nil, {empty}, {cons, 0, 0}, {cons, 0, 0, empty, triple, 1, 2, 3}} {
		for used := range 5 {
			for size := range 9 {
				words := append(slices.Clone(ahead), header(size))
				words = append(words, make([]api.Word, used)...)
				a := of(t, 40, words...)
				got, ok := a.Objects()
				if ok != (size == used) || ok == (len(got) == 0) {
					t.Errorf("Size %d, with %d words behind it: %v, %v", size, used, got, ok)
				}
			}
		}
	}
	noRow(t, of(t, 3, header(1<<20-1)))
	noRow(t, of(t, 3, empty, header(1<<20-1), 0))
}

// P8.1 Objects: the greatest Size ends at the end of the greatest arena.
func TestGreatestObject(t *testing.T) {
	a := New(api.MaxWords)
	take(t, a, api.MaxWords-1, 0, true)
	set(t, a, 0, header(api.MaxWords-1), true)
	if l, ok := a.Objects(); l != nil || ok {
		t.Errorf("a word too few: %v, %v", l, ok)
	}
	take(t, a, 1, api.MaxWords-1, true)
	if l, ok := a.Objects(); !slices.Equal(l, []int{0}) || !ok {
		t.Errorf("just enough: %v, %v", l, ok)
	}
	set(t, a, 0, header(api.MaxWords-2), true)
	set(t, a, api.MaxWords-1, empty, true)
	if l, ok := a.Objects(); !slices.Equal(l, []int{0, api.MaxWords - 1}) || !ok {
		t.Errorf("two: %v, %v", l, ok)
	}
	for i := range api.MaxWords {
		a.Set(i, empty)
	}
	if l, ok := a.Objects(); len(l) != api.MaxWords || !ok || l[0] != 0 || l[api.MaxWords-1] != api.MaxWords-1 {
		t.Errorf("as many as can be: %d, %v", len(l), ok)
	}
}

// P8.1 Objects: a word that is no header, in a header's place: the first, one between, the last; of another tag, of a tag that is none, of a bit too many.
func TestNoHeader(t *testing.T) {
	for _, w := range []api.Word{0, 5, word.Of(word.Small, 9), word.Of(word.Atom, 0), word.Of(word.Pid, 1), word.Of(word.Ref, 1), word.Of(word.Nil, 0), word.Of(word.Ptr, 0), word.Of(word.Link, 0), word.Of(word.Head, -1), word.Of(word.Head, 1<<43), cons | 8, cons ^ 1, cons | 1<<63, math.MaxUint64} {
		noRow(t, of(t, 9, w))
		noRow(t, of(t, 9, w, 0, 0))
		noRow(t, of(t, 9, w, empty))
		noRow(t, of(t, 9, empty, w, empty))
		noRow(t, of(t, 9, cons, 0, 0, w))
		noRow(t, of(t, 9, cons, 0, 0, w, 0, 0))
		noRow(t, of(t, 9, cons, 0, 0, w, cons, 0, 0))
	}
}

// P8.1 Objects: what was taken and is not yet an object is none; what a Cut gave back does not count.
func TestObjectsChange(t *testing.T) {
	a := of(t, 9, cons, 0, 0, triple, 0, 0, 0)
	objects(t, a, 0, 3)
	take(t, a, 1, 7, true)
	noRow(t, a)
	set(t, a, 7, empty, true)
	objects(t, a, 0, 3, 7)
	cut(t, a, 6, 9, true)
	noRow(t, a)
	cut(t, a, 3, 9, true)
	objects(t, a, 0)
	cut(t, a, 2, 2, true)
	noRow(t, a)
	cut(t, a, 2, 3, true)
	take(t, a, 1, 2, true)
	objects(t, a, 0)
}

// Rule R4 for Objects: each answer is memory of its own, spare room too; what it said stays.
func TestObjectsAreNew(t *testing.T) {
	a := of(t, 9, empty, empty, cons, 0, 0)
	l, _ := a.Objects()
	m, _ := a.Objects()
	l = l[:cap(l)]
	for i := range l {
		l[i] = 77
	}
	objects(t, a, 0, 1, 2)
	cut(t, a, 0, 0, true)
	if !slices.Equal(m, []int{0, 1, 2}) {
		t.Errorf("one answer is now %v", m)
	}
}
