package match

import (
	"math/rand/v2"
	"slices"
	"strconv"
	"testing"

	"tenement/api"
	"tenement/arena"
	"tenement/build"
	"tenement/order"
	"tenement/term"
	"tenement/word"
)

// drawn is a term of chance that may be, from so few that equal ones and such as part late are not rare.
func drawn(draw *rand.Rand, deep int) api.Term {
	kind := draw.IntN(10)
	if deep == 0 && kind > 5 {
		kind -= 5
	}
	switch kind {
	case 0:
		return term.Int(int64(draw.IntN(5) - 2))
	case 1:
		return number(draw.IntN(2) == 0, limbs(1+draw.IntN(4), uint32(draw.IntN(3))*0x7fffffff)...)
	case 2:
		return term.Atom(strconv.Itoa(draw.IntN(4)))
	case 3:
		return term.Pid(draw.IntN(3))
	case 4:
		return term.Ref(draw.IntN(3))
	case 5:
		return term.Bin([]byte("aabaa")[draw.IntN(4):][:draw.IntN(3)])
	case 6:
		return term.Cons(drawn(draw, deep-1), drawn(draw, deep-1))
	}
	var l []api.Term
	for range draw.IntN(4) {
		l = append(l, drawn(draw, deep-1))
	}
	if kind == 7 {
		return term.List(l...)
	}
	return term.Tuple(l...)
}

// altered is x with something else in one of its parts, or as it was.
func altered(draw *rand.Rand, x api.Term) api.Term {
	if draw.IntN(6) == 0 {
		return x
	}
	if len(x.L) == 0 || draw.IntN(6) == 0 {
		return drawn(draw, 1)
	}
	x = term.Copy(x)
	at := draw.IntN(len(x.L))
	x.L[at] = altered(draw, x.L[at])
	return x
}

// chance is a house with some terms of chance, the words that mean them, and Tuples and Conses of those.
func chance(t *testing.T, draw *rand.Rand) (*house, []api.Word) {
	h := newHouse(t)
	h.a = arena.New(500)
	var words []api.Word
	for range 2 {
		x := drawn(draw, draw.IntN(4))
		words = append(words, h.put(x), h.put(altered(draw, x)), h.put(term.Copy(x)))
	}
	some := func() api.Word { return words[draw.IntN(len(words))] }
	for range 3 {
		words = append(words, h.tuple(some(), some()), h.cons(some(), some()))
	}
	return h, words
}

// against holds the answers for x and y against those of build.Get, term.Same and order.Compare: 1, if they are the Same, 0 if not, -1 if one of them means nothing.
func (h *house) against(seed uint64, x, y api.Word) int {
	h.t.Helper()
	first, okX := build.Get(h.a, h.n, x, h.b)
	second, okY := build.Get(h.a, h.n, y, h.b)
	c, ok := Compare(h.a, h.n, x, y, h.b)
	same, known := Same(h.a, h.n, x, y, h.b)
	if !okX || !okY {
		if c != 0 || ok || same || known {
			h.t.Fatalf("seed %d: %x and %x: %d, %v and %v, %v, where one of them means nothing", seed, x, y, c, ok, same, known)
		}
		return -1
	}
	if c != order.Compare(first, second) || !ok || same != term.Same(first, second) || !known || same != (c == 0) {
		h.t.Fatalf("seed %d: %+v and %+v: %d, %v and %v, %v", seed, first, second, c, ok, same, known)
	}
	if same {
		return 1
	}
	return 0
}

// P10.1, P10.2: terms of chance, each against each.
func TestAgainstTerms(t *testing.T) {
	counts := map[int]int{}
	for seed := range uint64(400) {
		draw := rand.New(rand.NewPCG(seed, 1))
		h, words := chance(t, draw)
		for _, x := range words {
			for _, y := range words {
				counts[h.against(seed, x, y)]++
			}
		}
	}
	if counts[-1] > 0 || counts[0] < 5000 || counts[1] < 5000 {
		t.Errorf("too few to tell: %v", counts)
	}
}

// spoilt is a word that stands near what belongs there.
func spoilt(draw *rand.Rand, w api.Word, words []api.Word) api.Word {
	switch draw.IntN(6) {
	case 0:
		return w ^ 1<<draw.IntN(64)
	case 1:
		return words[draw.IntN(len(words))]
	case 2:
		return ptr(int64(draw.IntN(len(words)+2) - 1))
	case 3:
		return head(draw.IntN(4), draw.IntN(5), draw.IntN(8))
	case 4:
		return w + api.Word(draw.IntN(3)-1)<<(4*draw.IntN(2))
	}
	return api.Word(draw.IntN(16))
}

// P10.1, P10.2: heaps of chance, some words of which are spoilt: words in them and Ptrs into them, each against each.
func TestAgainstSpoiltTerms(t *testing.T) {
	counts := map[int]int{}
	for seed := range uint64(600) {
		draw := rand.New(rand.NewPCG(seed, 2))
		h, asked := chance(t, draw)
		words := h.a.Words()
		for range 1 + draw.IntN(5) {
			if len(words) > 0 {
				at := draw.IntN(len(words))
				h.a.Set(at, spoilt(draw, words[at], words))
			}
		}
		for range 6 {
			asked = append(asked, ptr(int64(draw.IntN(len(words)+2)-1)), spoilt(draw, small(1), []api.Word{small(2)}))
		}
		for _, x := range asked {
			for _, y := range asked {
				counts[h.against(seed, x, y)]++
			}
		}
	}
	if counts[-1] < 10000 || counts[0] < 10000 || counts[1] < 10000 {
		t.Errorf("too few to tell: %v", counts)
	}
}

// P10.1, P10.2: it is one order of all words that mean something: sorted by it, they rise as their terms do, and each is above all that are below one below it.
func TestOneOrder(t *testing.T) {
	for seed := range uint64(40) {
		draw := rand.New(rand.NewPCG(seed, 3))
		h, words := chance(t, draw)
		words = append(words, small(0), small(-1), nilWord(), word.Of(word.Pid, 1), word.Of(word.Ref, 1))
		sorted := slices.Clone(words)
		slices.SortStableFunc(sorted, func(x, y api.Word) int {
			c, _ := Compare(h.a, h.n, x, y, h.b)
			return c
		})
		for i, x := range sorted {
			for _, y := range sorted[i:] {
				if c, ok := Compare(h.a, h.n, x, y, h.b); c > 0 || !ok {
					t.Fatalf("seed %d: %x stands ahead of %x, which is less", seed, x, y)
				}
			}
		}
	}
}
