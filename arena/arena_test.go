package arena

import (
	"math"
	"slices"
	"testing"

	"tenement/api"
	"tenement/word"
)

// some are words of every tag, of a tag that is none, headers, and the least and the greatest: an arena asks no word what it is.
var some = []api.Word{1, word.Of(word.Small, -1), word.Of(word.Ptr, 1<<40), word.Of(word.Link, 3), word.Make(word.Header{Kind: word.Bin, Size: 3, Tree: 1}), word.Of(word.Head, -1), 15, 0, math.MaxUint64, 1 << 63}

// of is an arena of the size that has these words used.
func of(t *testing.T, size int, words ...api.Word) *Arena {
	t.Helper()
	a := New(size)
	take(t, a, len(words), 0, true)
	for i, w := range words {
		set(t, a, i, w, true)
	}
	return a
}

func take(t *testing.T, a *Arena, n, at int, ok bool) {
	t.Helper()
	if gotAt, gotOK := a.Take(n); gotAt != at || gotOK != ok {
		t.Errorf("Take(%d) is %d, %v, want %d, %v", n, gotAt, gotOK, at, ok)
	}
}

func set(t *testing.T, a *Arena, i int, w api.Word, ok bool) {
	t.Helper()
	if got := a.Set(i, w); got != ok {
		t.Errorf("Set(%d, %x) is %v, want %v", i, uint64(w), got, ok)
	}
}

func get(t *testing.T, a *Arena, i int, w api.Word, ok bool) {
	t.Helper()
	if gotW, gotOK := a.Get(i); gotW != w || gotOK != ok {
		t.Errorf("Get(%d) is %x, %v, want %x, %v", i, uint64(gotW), gotOK, uint64(w), ok)
	}
}

func cut(t *testing.T, a *Arena, used, size int, ok bool) {
	t.Helper()
	if got := a.Cut(used, size); got != ok {
		t.Errorf("Cut(%d, %d) is %v, want %v", used, size, got, ok)
	}
}

// strangers are places that are not used: behind those that are, at the arena's end and past it, below 0, and such as would be places if they were cut to 32 bits.
func strangers(used, size int) []int {
	return []int{used, used + 1, max(used, size-1), size, size + 1, api.MaxWords, api.MaxWords + 1, 1 << 32, 1<<32 + used/2, math.MaxInt - 1, math.MaxInt, -1, -2, -used - 1, -1 << 32, math.MinInt + used/2, math.MinInt}
}

// holds holds what can be asked of an arena, which changes nothing, against its size and the words that are used.
func holds(t *testing.T, a *Arena, size int, words ...api.Word) {
	t.Helper()
	if a.Size() != size || a.Used() != len(words) {
		t.Fatalf("Size is %d, Used %d, want %d, %d", a.Size(), a.Used(), size, len(words))
	}
	if got := a.Words(); !slices.Equal(got, words) {
		t.Fatalf("Words are %x, want %x", got, words)
	}
	for i, w := range words {
		get(t, a, i, w, true)
	}
	for _, i := range strangers(len(words), size) {
		get(t, a, i, 0, false)
	}
}

// The chapter's example.
func TestExample(t *testing.T) {
	a := New(4)
	take(t, a, 3, 0, true)
	take(t, a, 2, 0, false)
	set(t, a, 2, 5, true)
	get(t, a, 3, 0, false)
	holds(t, a, 4, 0, 0, 5)
}

// P8.1 New: so many words, none of them used, and all 0 when they are.
func TestNew(t *testing.T) {
	for _, size := range []int{0, 1, 2, 31, 32, 1000, api.MaxWords - 1, api.MaxWords} {
		a := New(size)
		holds(t, a, size)
		take(t, a, size+1, 0, false)
		take(t, a, size, 0, true)
		take(t, a, 1, 0, false)
		holds(t, a, size, make([]api.Word, size)...)
	}
}

// P8.1 New: a size that may not be: no words, but an arena all the same.
func TestNewOfWrongSize(t *testing.T) {
	for _, size := range []int{-1, -2, -api.MaxWords, math.MinInt, -1 << 32, api.MaxWords + 1, 2 * api.MaxWords, 1<<32 + 1, 1 << 62, math.MaxInt} {
		a := New(size)
		if a == nil {
			t.Fatalf("New(%d) is nil", size)
		}
		holds(t, a, 0)
		take(t, a, 1, 0, false)
		take(t, a, 0, 0, true)
		set(t, a, 0, 1, false)
		cut(t, a, 0, 3, true)
		take(t, a, 3, 0, true)
		holds(t, a, 3, 0, 0, 0)
	}
}

// P8.1 Get, Set: from the first place to the last one that is used; the word that was set there last, whatever word it is.
func TestGetAndSet(t *testing.T) {
	a := New(len(some) + 3)
	take(t, a, len(some), 0, true)
	for i, w := range some {
		get(t, a, i, 0, true)
		set(t, a, i, 7, true)
		set(t, a, i, w, true)
		get(t, a, i, w, true)
	}
	holds(t, a, len(some)+3, some...)
	for i := range some {
		set(t, a, i, some[len(some)-1-i], true)
	}
	turned := slices.Clone(some)
	slices.Reverse(turned)
	holds(t, a, len(some)+3, turned...)
}

// P8.1 Get, Set: false of other places, also of those that the arena has but that are not used. R3: nothing is set there, nor anywhere else.
func TestWrongPlaces(t *testing.T) {
	for _, x := range []struct{ size, used int }{{0, 0}, {1, 0}, {1, 1}, {9, 0}, {9, 1}, {9, 5}, {9, 8}, {9, 9}} {
		words := some[:x.used]
		a := of(t, x.size, words...)
		for _, i := range strangers(x.used, x.size) {
			get(t, a, i, 0, false)
			set(t, a, i, 9, false)
		}
		holds(t, a, x.size, words...)
		left := x.size - x.used
		take(t, a, left, x.used, true)
		holds(t, a, x.size, append(slices.Clone(words), make([]api.Word, left)...)...)
	}
}

// P8.1 Take: one behind the other, till none is left; none may be taken too, also then.
func TestTake(t *testing.T) {
	a := New(10)
	take(t, a, 0, 0, true)
	take(t, a, 1, 0, true)
	take(t, a, 0, 1, true)
	take(t, a, 4, 1, true)
	take(t, a, 6, 0, false)
	set(t, a, 4, 8, true)
	take(t, a, 3, 5, true)
	take(t, a, 3, 0, false)
	take(t, a, 2, 8, true)
	take(t, a, 0, 10, true)
	take(t, a, 1, 0, false)
	holds(t, a, 10, 0, 0, 0, 0, 8, 0, 0, 0, 0, 0)
}

// P8.1 Take: less than 0, and more than are left, also where a sum would wrap round. R3: nothing is taken then.
func TestTakeWrong(t *testing.T) {
	for used := range 5 {
		words := some[:used]
		a := of(t, 4, words...)
		for _, n := range []int{-1, -2, -used, -used - 1, -4, -api.MaxWords, -1 << 32, math.MinInt, math.MinInt + 1, math.MinInt + used, 5 - used, 5, api.MaxWords, 1 << 32, 1<<32 + 1, math.MaxInt - used, math.MaxInt - used + 1, math.MaxInt - 1, math.MaxInt} {
			if n < 0 || n > 4-used {
				take(t, a, n, 0, false)
			}
		}
		holds(t, a, 4, words...)
		take(t, a, 4-used, used, true)
	}
}

// P8.1 Cut: used and size are as said; words that stay keep what they have, be the new size less, the same or greater.
func TestCut(t *testing.T) {
	for used := range len(some) + 1 {
		for _, size := range []int{used, used + 1, 9, len(some), 12, 13, 1000, api.MaxWords - 1, api.MaxWords} {
			if size < used {
				continue
			}
			a := of(t, 12, some...)
			cut(t, a, used, size, true)
			holds(t, a, size, some[:used]...)
			take(t, a, size-used+1, 0, false)
			take(t, a, size-used, used, true)
			rest := a.Words()[used:]
			if len(rest) != size-used || slices.ContainsFunc(rest, func(w api.Word) bool { return w != 0 }) {
				t.Errorf("Cut(%d, %d): what is taken behind it is not %d noughts", used, size, size-used)
			}
		}
	}
}

// P8.1 Cut, R3: what may not be is refused, and changes nothing.
func TestCutWrong(t *testing.T) {
	for _, x := range []struct{ used, size int }{
		{-1, 3}, {-1, -1}, {-1, 12}, {-2, 0}, {math.MinInt, 12}, {math.MinInt, math.MinInt}, {-1 << 32, 12},
		{6, 12}, {6, 6}, {12, 12}, {13, 13}, {6, api.MaxWords}, {api.MaxWords, api.MaxWords}, {1 << 32, 1 << 32}, {1 << 32, 12}, {math.MaxInt, math.MaxInt},
		{5, 4}, {5, 0}, {3, 2}, {1, 0}, {0, -1}, {5, -1}, {0, math.MinInt}, {5, math.MinInt}, {0, -1 << 32},
		{0, api.MaxWords + 1}, {5, api.MaxWords + 1}, {3, 1 << 21}, {2, 1<<32 + 12}, {0, math.MaxInt}, {5, math.MaxInt},
		{-1, api.MaxWords + 1}, {6, 5}, {6, api.MaxWords + 1}, {7, math.MinInt}, {-1, math.MinInt},
	} {
		a := of(t, 12, some[:5]...)
		cut(t, a, x.used, x.size, false)
		holds(t, a, 12, some[:5]...)
		take(t, a, 8, 0, false)
		take(t, a, 7, 5, true)
		holds(t, a, 12, append(slices.Clone(some[:5]), make([]api.Word, 7)...)...)
	}
}

// P8.1 Cut: nothing is changed by one to what is there already.
func TestCutToTheSame(t *testing.T) {
	for _, size := range []int{5, 6, 20} {
		a := of(t, size, some[:5]...)
		for range 3 {
			cut(t, a, 5, size, true)
			holds(t, a, size, some[:5]...)
		}
	}
}

// P8.1 Cut: to nothing, used or at all; and up again.
func TestCutToNothing(t *testing.T) {
	a := of(t, 6, some[:6]...)
	cut(t, a, 0, 6, true)
	holds(t, a, 6)
	take(t, a, 6, 0, true)
	holds(t, a, 6, 0, 0, 0, 0, 0, 0)
	cut(t, a, 0, 0, true)
	holds(t, a, 0)
	take(t, a, 1, 0, false)
	cut(t, a, 0, 2, true)
	take(t, a, 2, 0, true)
	holds(t, a, 2, 0, 0)
}

// P8.1 Take: noughts also where words had been set before a Cut gave them back, in whatever steps, and where places had been refused.
func TestTakenAgainIsNoughts(t *testing.T) {
	for _, sizes := range [][]int{{8}, {4}, {9}, {20}, {api.MaxWords}, {4, 8}, {5, 8, 8}, {20, 8}, {20, 4, 20}, {8, 20, 8, 4, 8}} {
		a := of(t, 8, some[:8]...)
		cut(t, a, 6, 8, true)
		for _, size := range sizes {
			cut(t, a, 4, size, true)
		}
		size := sizes[len(sizes)-1]
		set(t, a, 4, 9, false)
		take(t, a, size-4, 4, true)
		for i := 4; i < min(size, 30); i++ {
			get(t, a, i, 0, true)
		}
		for i, w := range some[:4] {
			get(t, a, i, w, true)
		}
	}
}

// P8.1 Take: what had been used and given back can be set and given back again and again.
func TestTakeAndCutAgain(t *testing.T) {
	a := of(t, 5, some[:2]...)
	for round := range 50 {
		take(t, a, 3, 2, true)
		for i := 2; i < 5; i++ {
			get(t, a, i, 0, true)
			set(t, a, i, api.Word(100*round+i+1), true)
		}
		cut(t, a, 2, 5, true)
		holds(t, a, 5, some[:2]...)
	}
}

// R5: two arenas do not know of each other.
func TestTwoArenas(t *testing.T) {
	a, b := New(4), New(4)
	take(t, a, 3, 0, true)
	set(t, a, 0, 6, true)
	holds(t, b, 4)
	take(t, b, 4, 0, true)
	holds(t, b, 4, 0, 0, 0, 0)
	set(t, b, 1, 7, true)
	cut(t, b, 2, 9, true)
	holds(t, a, 4, 6, 0, 0)
	holds(t, b, 9, 0, 7)
}

// Rule R4 for Words: each answer is memory of its own, spare room too.
func TestWordsAreNew(t *testing.T) {
	for used := range 9 {
		a := of(t, 8, some[:used]...)
		l, m := a.Words(), a.Words()
		l = l[:cap(l)]
		for i := range l {
			l[i] = 77
		}
		_ = append(l[:0], 78, 79)
		holds(t, a, 8, some[:used]...)
		if !slices.Equal(m, some[:used]) {
			t.Errorf("one answer is written into another: %x", m)
		}
		take(t, a, 8-used, used, true)
		holds(t, a, 8, append(slices.Clone(some[:used]), make([]api.Word, 8-used)...)...)
	}
}

// Words that were answered stay, whatever the arena does then.
func TestWordsStay(t *testing.T) {
	a := of(t, 8, some[:4]...)
	l := a.Words()
	set(t, a, 0, 88, true)
	take(t, a, 3, 4, true)
	cut(t, a, 2, 8, true)
	cut(t, a, 1, 30, true)
	if !slices.Equal(l, some[:4]) {
		t.Errorf("Words that were answered are now %x", l)
	}
}

// R7: every method of a nil arena answers zero values.
func TestNilArena(t *testing.T) {
	var a *Arena
	for _, n := range []int{math.MinInt, -1, 0, 1, api.MaxWords, math.MaxInt} {
		get(t, a, n, 0, false)
		set(t, a, n, 5, false)
		take(t, a, n, 0, false)
		cut(t, a, n, n, false)
		cut(t, a, 0, n, false)
	}
	holds(t, a, 0)
	if a.Words() != nil {
		t.Error("Words of a nil arena are not nil")
	}
	if l, ok := a.Objects(); l != nil || ok {
		t.Errorf("Objects of a nil arena are %v, %v", l, ok)
	}
}

// R1: an Arena that New did not make is one of no words.
func TestZeroArena(t *testing.T) {
	a := new(Arena)
	holds(t, a, 0)
	objects(t, a)
	take(t, a, 0, 0, true)
	take(t, a, 1, 0, false)
	cut(t, a, 0, 2, true)
	take(t, a, 2, 0, true)
	set(t, a, 1, 3, true)
	holds(t, a, 2, 0, 3)
}
