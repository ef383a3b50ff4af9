package arena

import (
	"math/rand/v2"
	"slices"
	"testing"

	"tenement/api"
	"tenement/word"
)

// model is an arena as plainly as it can be told: the words that are used, and how many there may be.
type model struct {
	words []api.Word
	size  int
}

func (m *model) take(n int) (int, bool) {
	at := len(m.words)
	if n < 0 || n > m.size || at+n > m.size {
		return 0, false
	}
	m.words = append(slices.Clone(m.words), make([]api.Word, n)...)
	return at, true
}

func (m *model) set(i int, w api.Word) bool {
	if i < 0 || i >= len(m.words) {
		return false
	}
	m.words[i] = w
	return true
}

func (m *model) cut(used, size int) bool {
	if used < 0 || used > len(m.words) || size < used || size > api.MaxWords {
		return false
	}
	m.words, m.size = slices.Clone(m.words[:used]), size
	return true
}

// objects goes over every word, and counts as headers those to which the row of objects comes.
func (m *model) objects() ([]int, bool) {
	var places []int
	next := 0
	for at, w := range m.words {
		if at != next {
			continue
		}
		h, ok := word.Read(w)
		if !ok {
			return nil, false
		}
		places = append(places, at)
		next = at + h.Size + 1
	}
	if next != len(m.words) {
		return nil, false
	}
	return places, true
}

// P8.1: many calls in a row, held against the model behind each.
func TestAgainstModel(t *testing.T) {
	for seed := range uint64(60) {
		draw := rand.New(rand.NewPCG(seed, 8))
		size := draw.IntN(40)
		a, m := New(size), &model{size: size}
		for range 300 {
			step(t, draw, a, m)
			holds(t, a, m.size, m.words...)
			got, ok := a.Objects()
			if want, wantOK := m.objects(); !slices.Equal(got, want) || ok != wantOK {
				t.Fatalf("seed %d: Objects of %x are %v, %v, want %v, %v", seed, m.words, got, ok, want, wantOK)
			}
			if t.Failed() {
				t.Fatalf("seed %d", seed)
			}
		}
	}
}

// step makes one call of both.
func step(t *testing.T, draw *rand.Rand, a *Arena, m *model) {
	t.Helper()
	used := len(m.words)
	switch draw.IntN(4) {
	case 0:
		n := draw.IntN(14) - 2
		at, ok := m.take(n)
		take(t, a, n, at, ok)
	case 1:
		i, w := draw.IntN(used+4)-2, api.Word(draw.Uint64())
		set(t, a, i, w, m.set(i, w))
	case 2: // an object, so that rows of them come about
		n := draw.IntN(5)
		at, ok := m.take(1 + n)
		take(t, a, 1+n, at, ok)
		if ok {
			set(t, a, at, header(n), m.set(at, header(n)))
		}
	case 3:
		n, size := used-draw.IntN(8)+1, m.size+draw.IntN(24)-11
		cut(t, a, n, size, m.cut(n, size))
	}
}
