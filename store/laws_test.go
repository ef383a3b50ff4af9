package store

import (
	"math/rand/v2"
	"slices"
	"testing"
)

// model is a store as plainly as it can be told: of each used byte what it is and whose (0: it is dead), and how often each handle is held.
type model struct {
	most   int
	bytes  []byte
	owners []int
	counts map[int]int
}

func (m *model) live() int {
	n := 0
	for _, owner := range m.owners {
		if owner != 0 {
			n++
		}
	}
	return n
}

func (m *model) grant(b []byte) (int, bool) {
	if len(b) == 0 {
		return 0, true
	}
	if m.live()+len(b) > m.most {
		return 0, false
	}
	if len(m.bytes)+len(b) > m.most {
		m.slide()
	}
	handle := 1
	for m.counts[handle] > 0 {
		handle++
	}
	for _, x := range b {
		m.bytes, m.owners = append(m.bytes, x), append(m.owners, handle)
	}
	m.counts[handle] = 1
	return handle, true
}

func (m *model) slide() int {
	var bytes []byte
	var owners []int
	for i, owner := range m.owners {
		if owner != 0 {
			bytes, owners = append(bytes, m.bytes[i]), append(owners, owner)
		}
	}
	gained := len(m.bytes) - len(bytes)
	m.bytes, m.owners = bytes, owners
	return gained
}

func (m *model) hold(handle int) bool {
	if m.counts[handle] == 0 {
		return false
	}
	m.counts[handle]++
	return true
}

func (m *model) drop(handle int) bool {
	if m.counts[handle] == 0 {
		return false
	}
	m.counts[handle]--
	if m.counts[handle] == 0 {
		delete(m.counts, handle)
		for i, owner := range m.owners {
			if owner == handle {
				m.owners[i] = 0
			}
		}
	}
	return true
}

// all are the model's handles as they should be in the store.
func (m *model) all() []one {
	byHandle := map[int]*one{}
	for i, owner := range m.owners {
		if owner == 0 {
			continue
		}
		if byHandle[owner] == nil {
			byHandle[owner] = &one{handle: owner, at: i, count: m.counts[owner]}
		}
		byHandle[owner].bytes += string(rune(m.bytes[i])) // all below 128
	}
	var l []one
	for _, x := range byHandle {
		l = append(l, *x)
	}
	slices.SortFunc(l, func(a, b one) int { return a.handle - b.handle })
	return l
}

// P11.1, P11.2, P11.3: many calls in a row, held against the model behind each.
func TestAgainstModel(t *testing.T) {
	for seed := range uint64(150) {
		draw := rand.New(rand.NewPCG(seed, 11))
		most := draw.IntN(48)
		s, m := New(most), &model{most: most, counts: map[int]int{}}
		for range 250 {
			step(t, draw, s, m)
			holds(t, s, len(m.bytes), m.all()...)
			if t.Failed() {
				t.Fatalf("seed %d", seed)
			}
		}
	}
}

// step makes one call of both.
func step(t *testing.T, draw *rand.Rand, s *Store, m *model) {
	t.Helper()
	handle := draw.IntN(len(m.counts)+5) - 1
	switch draw.IntN(8) {
	case 0, 1, 2, 3:
		b := make([]byte, draw.IntN(10))
		for i := range b {
			b[i] = byte(draw.IntN(128))
		}
		want, ok := m.grant(b)
		grant(t, s, string(b), want, ok)
	case 4:
		hold(t, s, handle, m.hold(handle))
	case 5, 6:
		drop(t, s, handle, m.drop(handle))
	case 7:
		if draw.IntN(4) == 0 {
			slide(t, s, m.slide())
		}
	}
}
