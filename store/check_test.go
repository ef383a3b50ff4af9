package store

import "testing"

// P11.2 Check: no call leaves a store that does not fit together, so here its parts are bent by hand, one way each.
func TestCheckTellsFaults(t *testing.T) {
	bends := []struct {
		name string
		bend func(s *Store)
	}{
		{"bytes that overlap by one", func(s *Store) { s.table[1].at-- }},
		{"bytes that lie within another's", func(s *Store) { s.table[3].at = 0 }},
		{"two at one place", func(s *Store) { s.table[3].at = s.table[4].at }},
		{"bytes that end one past the used ones", func(s *Store) { s.table[4].at++ }},
		{"bytes that begin past the used ones", func(s *Store) { s.table[4].at = 100 }},
		{"used bytes that end too early", func(s *Store) { s.bytes = s.bytes[:len(s.bytes)-1] }},
		{"a place below 0", func(s *Store) { s.table[0].at = -1 }},
		{"a place so great that its end wraps round", func(s *Store) { s.table[4].at = 1<<63 - 1 }},
		{"a size so great that its end wraps round", func(s *Store) { s.table[4].size = 1<<63 - 1 }},
		{"a size below 0", func(s *Store) { s.table[4].size = -2 }},
		{"no bytes", func(s *Store) { s.live -= s.table[4].size; s.table[4].size = 0 }},
		{"a byte less than are live", func(s *Store) { s.live++ }},
		{"a byte more than are live", func(s *Store) { s.live-- }},
		{"a size that is less", func(s *Store) { s.table[1].size-- }},
		{"a count of 0", func(s *Store) { s.table[1].count = 0 }},
		{"a count below 0", func(s *Store) { s.table[4].count = -1 }},
		{"a handle that is lost", func(s *Store) { s.table[1] = place{} }},
	}
	for _, x := range bends {
		s := of(t, 20, "abc", "de", "f", "ghij", "kl")
		drop(t, s, 3, true)
		if !s.Check() {
			t.Fatal("Check is false of what was not bent")
		}
		x.bend(s)
		if s.Check() {
			t.Errorf("%s: Check is true", x.name)
		}
	}
}

// P11.2 Check: dead bytes are no fault, wherever they lie, nor are counts above 1.
func TestCheckOfGoodOnes(t *testing.T) {
	s := New(12)
	for range 3 {
		for _, b := range []string{"abc", "d", "ef"} {
			handle, ok := s.Grant([]byte(b))
			if !ok || !s.Check() || !s.Hold(handle) || !s.Check() {
				t.Fatalf("Check is false behind Grant(%q) and Hold", b)
			}
		}
		for _, handle := range []int{2, 2, 1, 3, 1, 3} {
			if !s.Drop(handle) || !s.Check() {
				t.Fatalf("Check is false behind Drop(%d)", handle)
			}
		}
	}
	s.Slide()
	if !s.Check() {
		t.Error("Check is false behind a Slide")
	}
}
