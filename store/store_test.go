package store

import (
	"bytes"
	"math"
	"slices"
	"strings"
	"testing"

	"tenement/api"
)

// one is a handle as it should be: where its bytes begin, how often it is held, and its bytes.
type one struct {
	handle, at, count int
	bytes             string
}

func grant(t *testing.T, s *Store, b string, handle int, ok bool) {
	t.Helper()
	if got, gotOK := s.Grant([]byte(b)); got != handle || gotOK != ok {
		t.Errorf("Grant(%.20q) of %d bytes is %d, %v, want %d, %v", b, len(b), got, gotOK, handle, ok)
	}
}

func hold(t *testing.T, s *Store, handle int, ok bool) {
	t.Helper()
	if got := s.Hold(handle); got != ok {
		t.Errorf("Hold(%d) is %v, want %v", handle, got, ok)
	}
}

func drop(t *testing.T, s *Store, handle int, ok bool) {
	t.Helper()
	if got := s.Drop(handle); got != ok {
		t.Errorf("Drop(%d) is %v, want %v", handle, got, ok)
	}
}

func slide(t *testing.T, s *Store, gained int) {
	t.Helper()
	if got := s.Slide(); got != gained {
		t.Errorf("Slide is %d, want %d", got, gained)
	}
}

// look wants these bytes.
func look(t *testing.T, s *Store, handle, at, n int, b string) {
	t.Helper()
	if got, ok := s.Look(handle, at, n); !ok || string(got) != b {
		t.Errorf("Look(%d, %d, %d) is %.20q, %v, want %.20q", handle, at, n, got, ok, b)
	}
}

// blind wants no bytes.
func blind(t *testing.T, s *Store, handle, at, n int) {
	t.Helper()
	if got, ok := s.Look(handle, at, n); got != nil || ok {
		t.Errorf("Look(%d, %d, %d) is %.20q, %v, want nothing", handle, at, n, got, ok)
	}
}

// far are numbers that are no handle, no place and no length anywhere, and such as would be one if they were cut to 32 bits.
var far = []int{-1, -2, -1 << 32, math.MinInt, math.MinInt + 1, api.MaxBytes + 1, 1 << 32, 1<<32 + 1, math.MaxInt - 1, math.MaxInt}

// strangers are numbers that are no handle here.
func strangers(all []one) []int {
	l := append([]int{0}, far...)
	for n := 1; n < 2*len(all)+3; n++ {
		if !slices.ContainsFunc(all, func(x one) bool { return x.handle == n }) {
			l = append(l, n)
		}
	}
	return l
}

// holds holds what can be asked of a store, which changes nothing, against the handles as they should be, by rising numbers.
func holds(t *testing.T, s *Store, used int, all ...one) {
	t.Helper()
	live := 0
	var handles []int
	for _, x := range all {
		live += len(x.bytes)
		handles = append(handles, x.handle)
		if at, n, ok := s.Place(x.handle); at != x.at || n != len(x.bytes) || !ok {
			t.Errorf("Place(%d) is %d, %d, %v, want %d, %d", x.handle, at, n, ok, x.at, len(x.bytes))
		}
		if got := s.Count(x.handle); got != x.count {
			t.Errorf("Count(%d) is %d, want %d", x.handle, got, x.count)
		}
		look(t, s, x.handle, 0, len(x.bytes), x.bytes)
	}
	if s.Live() != live || s.Used() != used {
		t.Errorf("Live is %d, Used %d, want %d, %d", s.Live(), s.Used(), live, used)
	}
	if got := s.Handles(); !slices.Equal(got, handles) {
		t.Errorf("Handles are %v, want %v", got, handles)
	}
	if !s.Check() {
		t.Error("Check is false")
	}
	for _, n := range strangers(all) {
		none(t, s, n)
	}
}

// none wants that there is no such handle.
func none(t *testing.T, s *Store, handle int) {
	t.Helper()
	if at, n, ok := s.Place(handle); at != 0 || n != 0 || ok {
		t.Errorf("Place(%d) is %d, %d, %v, want nothing", handle, at, n, ok)
	}
	if got := s.Count(handle); got != 0 {
		t.Errorf("Count(%d) is %d, want 0", handle, got)
	}
	blind(t, s, handle, 0, 0)
	blind(t, s, handle, 0, 1)
}

// of is a store that was granted these, by the handles from 1 on.
func of(t *testing.T, most int, all ...string) *Store {
	t.Helper()
	s := New(most)
	for i, b := range all {
		grant(t, s, b, i+1, true)
	}
	return s
}

// The chapter's example.
func TestExample(t *testing.T) {
	s := New(4)
	grant(t, s, "\x01\x02\x03", 1, true)
	grant(t, s, "\x04\x05", 0, false)
	drop(t, s, 1, true)
	grant(t, s, "\x04\x05", 1, true)
	holds(t, s, 2, one{1, 0, 1, "\x04\x05"})
}

// P11.1 New: so many bytes may be live, and not one more.
func TestNew(t *testing.T) {
	for _, most := range []int{0, 1, 2, 31, 4096, 4097, api.MaxBytes - 1, api.MaxBytes} {
		s := New(most)
		holds(t, s, 0)
		grant(t, s, strings.Repeat("x", most+1), 0, false)
		holds(t, s, 0)
		all := strings.Repeat("ab", most)[:most]
		if most > 0 {
			grant(t, s, all, 1, true)
			holds(t, s, most, one{1, 0, 1, all})
		}
		grant(t, s, "x", 0, false)
		grant(t, s, "", 0, true)
		slide(t, s, 0)
		if s.Live() != most || s.Used() != most || !s.Check() {
			t.Errorf("New(%d): %d are live, %d used, Check is %v", most, s.Live(), s.Used(), s.Check())
		}
	}
}

// P11.1 New: of a number that may not be it takes no bytes, but is a store all the same.
func TestNewOfWrongNumber(t *testing.T) {
	for _, most := range []int{-1, -2, -api.MaxBytes, -1 << 32, math.MinInt, api.MaxBytes + 1, 2 * api.MaxBytes, 1<<32 + 1, 1 << 62, math.MaxInt} {
		s := New(most)
		if s == nil {
			t.Fatalf("New(%d) is nil", most)
		}
		grant(t, s, "x", 0, false)
		grant(t, s, "", 0, true)
		hold(t, s, 1, false)
		drop(t, s, 1, false)
		slide(t, s, 0)
		holds(t, s, 0)
	}
}

// P11.1 Grant: behind the used bytes, each with a count of 1, whatever bytes they are, the same ones too.
func TestGrant(t *testing.T) {
	every := make([]byte, 256)
	for i := range every {
		every[i] = byte(i)
	}
	s := of(t, 300, "\x00", "abc", "abc", string(every), "\xff\xfe")
	holds(t, s, 265, one{1, 0, 1, "\x00"}, one{2, 1, 1, "abc"}, one{3, 4, 1, "abc"}, one{4, 7, 1, string(every)}, one{5, 263, 1, "\xff\xfe"})
}

// P11.1 Grant: of no bytes nothing is done: not a handle is taken, and nothing slides; in a full store too.
func TestGrantOfNoBytes(t *testing.T) {
	s := of(t, 6, "ab", "cd")
	drop(t, s, 1, true)
	for _, b := range [][]byte{nil, {}, make([]byte, 0, 9)} {
		if handle, ok := s.Grant(b); handle != 0 || !ok {
			t.Errorf("Grant of no bytes is %d, %v", handle, ok)
		}
		holds(t, s, 4, one{2, 2, 1, "cd"})
	}
	grant(t, s, "ef", 1, true)
	grant(t, s, "", 0, true)
	holds(t, s, 6, one{1, 4, 1, "ef"}, one{2, 2, 1, "cd"})
	grant(t, s, "gh", 3, true)
	grant(t, s, "", 0, true)
	holds(t, s, 6, one{1, 2, 1, "ef"}, one{2, 0, 1, "cd"}, one{3, 4, 1, "gh"})
}

// P11.1 Grant: Live and the new bytes just reach most; one past it is refused, and then nothing is done, nothing slid either.
func TestGrantAtTheLimit(t *testing.T) {
	for most := 1; most < 12; most++ {
		for live := range most {
			s := New(most)
			var all []one
			if live > 0 {
				b := strings.Repeat("l", live)
				grant(t, s, b, 1, true)
				all = []one{{1, 0, 1, b}}
			}
			rest := strings.Repeat("r", most-live)
			grant(t, s, rest+"r", 0, false)
			holds(t, s, live, all...)
			grant(t, s, rest, len(all)+1, true)
			holds(t, s, most, append(all, one{len(all) + 1, live, 1, rest})...)
			grant(t, s, "r", 0, false)
			holds(t, s, most, append(all, one{len(all) + 1, live, 1, rest})...)
		}
	}
}

// P11.1 Grant, R3: a refusal slides nothing, though dead bytes lie ahead, and takes no handle.
func TestRefusedGrantSlidesNothing(t *testing.T) {
	s := of(t, 9, "ab", "cde", "fg", "hi")
	drop(t, s, 1, true)
	drop(t, s, 3, true)
	for _, b := range []string{"12345", "123456", "123456789", "1234567890"} {
		grant(t, s, b, 0, false)
		holds(t, s, 9, one{2, 2, 1, "cde"}, one{4, 7, 1, "hi"})
	}
	grant(t, s, "1234", 1, true)
	holds(t, s, 9, one{1, 5, 1, "1234"}, one{2, 0, 1, "cde"}, one{4, 3, 1, "hi"})
}

// P11.1 Grant: what fits behind the used bytes is put there, dead ones ahead or not: no Slide.
func TestGrantBehindTheUsed(t *testing.T) {
	s := of(t, 10, "abc", "de", "f")
	drop(t, s, 1, true)
	grant(t, s, "gh", 1, true)
	holds(t, s, 8, one{1, 6, 1, "gh"}, one{2, 3, 1, "de"}, one{3, 5, 1, "f"})
	grant(t, s, "ij", 4, true) // just fits
	holds(t, s, 10, one{1, 6, 1, "gh"}, one{2, 3, 1, "de"}, one{3, 5, 1, "f"}, one{4, 8, 1, "ij"})
	drop(t, s, 2, true)
	grant(t, s, "k", 2, true) // does not
	holds(t, s, 6, one{1, 1, 1, "gh"}, one{2, 5, 1, "k"}, one{3, 0, 1, "f"}, one{4, 3, 1, "ij"})
}

// P11.1 Grant: room that is there, but in pieces, is slid together ahead, by one byte that does not fit.
func TestGrantSlidesAhead(t *testing.T) {
	for n := 1; n < 9; n++ {
		s := of(t, 9, "ab", "cd", "ef", "g", "h")
		drop(t, s, 1, true)
		drop(t, s, 3, true)
		b := strings.Repeat("n", n)
		switch {
		case n == 1:
			grant(t, s, b, 1, true)
			holds(t, s, 9, one{1, 8, 1, b}, one{2, 2, 1, "cd"}, one{4, 6, 1, "g"}, one{5, 7, 1, "h"})
		case n <= 5:
			grant(t, s, b, 1, true)
			holds(t, s, 4+n, one{1, 4, 1, b}, one{2, 0, 1, "cd"}, one{4, 2, 1, "g"}, one{5, 3, 1, "h"})
		default:
			grant(t, s, b, 0, false)
			holds(t, s, 8, one{2, 2, 1, "cd"}, one{4, 6, 1, "g"}, one{5, 7, 1, "h"})
		}
	}
}

// P11.1 Grant: where all bytes are dead, a Grant of as many as may be slides them away.
func TestGrantOverAllDead(t *testing.T) {
	s := of(t, 5, "abc", "de")
	drop(t, s, 2, true)
	drop(t, s, 1, true)
	holds(t, s, 5)
	grant(t, s, "fghij", 1, true)
	holds(t, s, 5, one{1, 0, 1, "fghij"})
}

// P11.1 Grant: the new handle is the least that is free, in whatever order they became so, also behind the last one.
func TestLeastHandle(t *testing.T) {
	orders := [][]int{{2, 4, 6}, {6, 4, 2}, {4, 2, 6}, {1, 2, 3}, {3, 2, 1}, {6, 5, 4}, {4, 5, 6}, {1}, {6}, {5, 1}, {1, 2, 3, 4, 5, 6}, {6, 5, 4, 3, 2, 1}, {3, 6, 1, 5, 2, 4}}
	for _, order := range orders {
		s := of(t, 40, "a", "b", "c", "d", "e", "f")
		for _, handle := range order {
			drop(t, s, handle, true)
		}
		rising := slices.Sorted(slices.Values(order))
		for i, handle := range rising {
			grant(t, s, "n", handle, true)
			if i == 0 && len(rising) > 1 { // one that was just given is free again
				drop(t, s, handle, true)
				grant(t, s, "m", handle, true)
			}
		}
		grant(t, s, "o", 7, true)
		grant(t, s, "p", 8, true)
		if got := s.Handles(); !slices.Equal(got, []int{1, 2, 3, 4, 5, 6, 7, 8}) {
			t.Errorf("%v dropped and as many granted: Handles are %v", order, got)
		}
		if !s.Check() {
			t.Errorf("%v dropped and as many granted: Check is false", order)
		}
	}
}

// P11.1 Grant: a handle between two Grants becomes free, less than the one that was to be next, and greater.
func TestLeastHandleBetween(t *testing.T) {
	s := of(t, 40, "a", "b", "c", "d")
	drop(t, s, 3, true)
	drop(t, s, 2, true)
	grant(t, s, "e", 2, true)
	drop(t, s, 1, true)
	grant(t, s, "f", 1, true)
	grant(t, s, "g", 3, true)
	drop(t, s, 4, true)
	grant(t, s, "h", 4, true)
	grant(t, s, "i", 5, true)
	holds(t, s, 9, one{1, 5, 1, "f"}, one{2, 4, 1, "e"}, one{3, 6, 1, "g"}, one{4, 7, 1, "h"}, one{5, 8, 1, "i"})
}

// P11.1 Look: all bytes, each part, none at each place and at the end; not beyond either bound.
func TestLook(t *testing.T) {
	all := []string{"abcde", "f", "ghij"}
	s := of(t, 20, all...)
	for i, b := range all {
		for at := -2; at < len(b)+3; at++ {
			for n := -2; n < len(b)+3; n++ {
				if at < 0 || n < 0 || at+n > len(b) {
					blind(t, s, i+1, at, n)
				} else {
					look(t, s, i+1, at, n, b[at:at+n])
				}
			}
		}
	}
}

// P11.1 Look: places and lengths that are too great or below 0, such as would wrap round when added too.
func TestLookFar(t *testing.T) {
	s := of(t, 20, "abc", "defg", "hi")
	for handle := 1; handle < 4; handle++ {
		for _, x := range far {
			for _, y := range append([]int{0, 1, 2, 3, 4}, far...) {
				blind(t, s, handle, x, y)
				blind(t, s, handle, y, x)
			}
		}
		blind(t, s, handle, math.MaxInt, math.MinInt+3)
		blind(t, s, handle, math.MinInt+3, math.MaxInt)
		blind(t, s, handle, 1, math.MaxInt)
		blind(t, s, handle, math.MaxInt, 1)
		blind(t, s, handle, math.MaxInt, math.MaxInt)
	}
}

// P11.1 Look: there is no such handle: dropped, 0, below 0, never granted.
func TestLookOfNone(t *testing.T) {
	s := of(t, 20, "abc", "de", "f")
	drop(t, s, 2, true)
	drop(t, s, 3, true)
	for _, handle := range append([]int{0, 2, 3, 4}, far...) {
		for _, at := range []int{0, 1, -1, 3} {
			for _, n := range []int{0, 1, -1, 2} {
				blind(t, s, handle, at, n)
			}
		}
	}
	holds(t, s, 6, one{1, 0, 1, "abc"})
}

// P11.1 Hold, Drop: a handle goes with the last Drop, of as many as it was held and granted, and not one ahead.
func TestHoldAndDrop(t *testing.T) {
	for held := range 6 {
		s := of(t, 9, "ab", "cde", "f")
		for i := range held {
			hold(t, s, 2, true)
			holds(t, s, 6, one{1, 0, 1, "ab"}, one{2, 2, i + 2, "cde"}, one{3, 5, 1, "f"})
		}
		for i := range held {
			drop(t, s, 2, true)
			holds(t, s, 6, one{1, 0, 1, "ab"}, one{2, 2, held - i, "cde"}, one{3, 5, 1, "f"})
		}
		drop(t, s, 2, true)
		holds(t, s, 6, one{1, 0, 1, "ab"}, one{3, 5, 1, "f"})
		drop(t, s, 2, false)
		hold(t, s, 2, false)
		holds(t, s, 6, one{1, 0, 1, "ab"}, one{3, 5, 1, "f"})
		grant(t, s, "gh", 2, true)
		holds(t, s, 8, one{1, 0, 1, "ab"}, one{2, 6, 1, "gh"}, one{3, 5, 1, "f"})
	}
}

// P11.1 Hold, Drop, R3: of what is no handle they are refused, and change nothing.
func TestHoldAndDropOfNone(t *testing.T) {
	s := of(t, 9, "ab", "cde", "f", "g")
	drop(t, s, 2, true)
	drop(t, s, 4, true)
	hold(t, s, 3, true)
	all := []one{{1, 0, 1, "ab"}, {3, 5, 2, "f"}}
	for _, handle := range strangers(all) {
		hold(t, s, handle, false)
		drop(t, s, handle, false)
	}
	holds(t, s, 7, all...)
	grant(t, s, "h", 2, true)
	grant(t, s, "i", 4, true)
}

// P11.1 Drop: bytes that are not live may be granted anew at once, by the room that they leave.
func TestDropMakesRoom(t *testing.T) {
	s := of(t, 6, "abc", "def")
	hold(t, s, 1, true)
	grant(t, s, "x", 0, false)
	drop(t, s, 1, true)
	grant(t, s, "x", 0, false)
	drop(t, s, 1, true)
	grant(t, s, "wxyz", 0, false)
	grant(t, s, "xyz", 1, true)
	holds(t, s, 6, one{1, 3, 1, "xyz"}, one{2, 0, 1, "def"})
}

// P11.2 Used: dead bytes at the beginning, in the midst and at the end are used, till a Slide.
func TestUsed(t *testing.T) {
	for _, dropped := range [][]int{{1}, {2}, {3}, {1, 2}, {2, 3}, {3, 2}, {1, 3}, {1, 2, 3}} {
		s := of(t, 20, "ab", "cde", "fghi")
		gained := 0
		for _, handle := range dropped {
			gained += handle + 1
			drop(t, s, handle, true)
			if s.Used() != 9 || s.Live() != 9-gained {
				t.Errorf("%v dropped: Used is %d, Live %d, want 9, %d", dropped, s.Used(), s.Live(), 9-gained)
			}
		}
		slide(t, s, gained)
		if s.Used() != 9-gained || s.Live() != 9-gained {
			t.Errorf("%v dropped and slid: Used is %d, Live %d, want %d", dropped, s.Used(), s.Live(), 9-gained)
		}
		slide(t, s, 0)
	}
}

// P11.2 Used: behind dead bytes at the end goes what is granted next.
func TestGrantBehindDeadBytes(t *testing.T) {
	s := of(t, 20, "ab", "cde")
	drop(t, s, 2, true)
	grant(t, s, "f", 2, true)
	holds(t, s, 6, one{1, 0, 1, "ab"}, one{2, 5, 1, "f"})
	drop(t, s, 2, true)
	drop(t, s, 1, true)
	grant(t, s, "g", 1, true)
	holds(t, s, 7, one{1, 6, 1, "g"})
}

// P11.2 Slide: nothing to gain, in an empty store, in one without dead bytes, twice in a row.
func TestSlideWithNothingToGain(t *testing.T) {
	s := New(9)
	slide(t, s, 0)
	holds(t, s, 0)
	grant(t, s, "abc", 1, true)
	grant(t, s, "de", 2, true)
	hold(t, s, 1, true)
	slide(t, s, 0)
	holds(t, s, 5, one{1, 0, 2, "abc"}, one{2, 3, 1, "de"})
	drop(t, s, 1, true)
	slide(t, s, 0)
	holds(t, s, 5, one{1, 0, 1, "abc"}, one{2, 3, 1, "de"})
	drop(t, s, 1, true)
	slide(t, s, 3)
	slide(t, s, 0)
	holds(t, s, 2, one{2, 0, 1, "de"})
}

// P11.2 Slide: with all dead nothing is used, and handles begin at 1 again.
func TestSlideWithAllDead(t *testing.T) {
	s := of(t, 9, "abc", "de", "f")
	for _, handle := range []int{2, 1, 3} {
		drop(t, s, handle, true)
	}
	holds(t, s, 6)
	slide(t, s, 6)
	holds(t, s, 0)
	grant(t, s, "g", 1, true)
	holds(t, s, 1, one{1, 0, 1, "g"})
}

// P11.2 Slide: in the order in which the bytes lie, though the handles' numbers go another way.
func TestSlideInTheOrderOfPlaces(t *testing.T) {
	s := of(t, 12, "aa", "bbb", "c", "dddd")
	drop(t, s, 1, true)
	drop(t, s, 3, true)
	grant(t, s, "ee", 1, true) // lies behind those of 2 and 4
	drop(t, s, 2, true)
	hold(t, s, 4, true)
	slide(t, s, 6)
	holds(t, s, 6, one{1, 4, 1, "ee"}, one{4, 0, 2, "dddd"})
	grant(t, s, "ffffff", 2, true)
	drop(t, s, 4, true)
	drop(t, s, 4, true)
	grant(t, s, "gggg", 3, true)
	holds(t, s, 12, one{1, 0, 1, "ee"}, one{2, 2, 1, "ffffff"}, one{3, 8, 1, "gggg"})
	drop(t, s, 1, true)
	grant(t, s, "hh", 1, true)
	holds(t, s, 12, one{1, 10, 1, "hh"}, one{2, 0, 1, "ffffff"}, one{3, 6, 1, "gggg"})
	drop(t, s, 2, true)
	slide(t, s, 6)
	holds(t, s, 6, one{1, 4, 1, "hh"}, one{3, 0, 1, "gggg"})
}

// P11.2 Slide: bytes are moved by less than they are long too.
func TestSlideOverItself(t *testing.T) {
	long := strings.Repeat("0123456789abcdef", 200)
	for gap := 1; gap < 40; gap += 7 {
		s := of(t, 5000, strings.Repeat("x", gap), long, "tail")
		drop(t, s, 1, true)
		slide(t, s, gap)
		holds(t, s, len(long)+4, one{2, 0, 1, long}, one{3, len(long), 1, "tail"})
	}
}

// P11.2 Handles, Place, Count: behind drops, slides and new grants.
func TestHandlesBehindAll(t *testing.T) {
	s := of(t, 30, "a", "bb", "ccc", "dddd")
	drop(t, s, 4, true)
	holds(t, s, 10, one{1, 0, 1, "a"}, one{2, 1, 1, "bb"}, one{3, 3, 1, "ccc"})
	drop(t, s, 1, true)
	holds(t, s, 10, one{2, 1, 1, "bb"}, one{3, 3, 1, "ccc"})
	slide(t, s, 5)
	holds(t, s, 5, one{2, 0, 1, "bb"}, one{3, 2, 1, "ccc"})
	grant(t, s, "e", 1, true)
	hold(t, s, 3, true)
	drop(t, s, 2, true)
	holds(t, s, 6, one{1, 5, 1, "e"}, one{3, 2, 2, "ccc"})
	grant(t, s, "ff", 2, true)
	grant(t, s, "g", 4, true)
	slide(t, s, 2)
	holds(t, s, 7, one{1, 3, 1, "e"}, one{2, 4, 1, "ff"}, one{3, 0, 2, "ccc"}, one{4, 6, 1, "g"})
}

// P11.3: what was granted is looked up as it was, whatever slides, drops and grants there are; one byte each, as many as may be.
func TestManyHandles(t *testing.T) {
	s := New(api.MaxBytes)
	for i := range api.MaxBytes {
		if handle, ok := s.Grant([]byte{byte(i % 251)}); handle != i+1 || !ok {
			t.Fatalf("Grant of byte %d is %d, %v", i, handle, ok)
		}
	}
	grant(t, s, "x", 0, false)
	for i := 0; i < api.MaxBytes; i += 2 {
		drop(t, s, i+1, true)
	}
	grant(t, s, strings.Repeat("y", api.MaxBytes/2), 1, true)
	for i := 1; i < api.MaxBytes; i += 2 {
		b, ok := s.Look(i+1, 0, 1)
		if !ok || b[0] != byte(i%251) {
			t.Fatalf("handle %d is %v, %v", i+1, b, ok)
		}
		if at, n, ok := s.Place(i + 1); at != i/2 || n != 1 || !ok {
			t.Fatalf("Place(%d) is %d, %d, %v", i+1, at, n, ok)
		}
	}
	if s.Live() != api.MaxBytes || s.Used() != api.MaxBytes || !s.Check() || len(s.Handles()) != api.MaxBytes/2+1 {
		t.Errorf("Live is %d, Used %d, Check %v, of %d handles", s.Live(), s.Used(), s.Check(), len(s.Handles()))
	}
}

// R5: two stores do not know of each other.
func TestTwoStores(t *testing.T) {
	a, b := of(t, 6, "abc", "de"), of(t, 6, "vw", "x", "yz")
	drop(t, a, 1, true)
	slide(t, a, 3)
	holds(t, b, 5, one{1, 0, 1, "vw"}, one{2, 2, 1, "x"}, one{3, 3, 1, "yz"})
	hold(t, b, 2, true)
	drop(t, b, 3, true)
	holds(t, a, 2, one{2, 0, 1, "de"})
}

// R7: every method of a nil store answers zero values.
func TestNilStore(t *testing.T) {
	var s *Store
	grant(t, s, "", 0, false)
	grant(t, s, "abc", 0, false)
	for _, n := range append([]int{0, 1, 2}, far...) {
		hold(t, s, n, false)
		drop(t, s, n, false)
		none(t, s, n)
		blind(t, s, n, n, n)
	}
	slide(t, s, 0)
	if s.Live() != 0 || s.Used() != 0 || len(s.Handles()) != 0 || s.Check() {
		t.Errorf("a nil store has Live %d, Used %d, Handles %v, Check %v", s.Live(), s.Used(), s.Handles(), s.Check())
	}
}

// R1: a Store that New did not make takes no bytes.
func TestZeroStore(t *testing.T) {
	s := new(Store)
	grant(t, s, "x", 0, false)
	grant(t, s, "", 0, true)
	slide(t, s, 0)
	holds(t, s, 0)
}

// R4: bytes that are handed in are neither kept nor changed, spare room included.
func TestGrantKeepsNothing(t *testing.T) {
	row := []byte("abcdefgh")
	s := New(8)
	for i, to := range []int{3, 6} {
		if handle, ok := s.Grant(row[to-3 : to]); handle != i+1 || !ok {
			t.Errorf("Grant is %d, %v", handle, ok)
		}
	}
	drop(t, s, 1, true)
	slide(t, s, 3)
	grant(t, s, "12345", 1, true)
	if string(row) != "abcdefgh" {
		t.Errorf("what was handed in is now %q", row)
	}
	clear(row)
	holds(t, s, 8, one{1, 3, 1, "12345"}, one{2, 0, 1, "def"})
}

// R4: bytes that are answered are new memory, spare room too, and stay as they are.
func TestLooksAreNew(t *testing.T) {
	s := of(t, 9, "abc", "defgh")
	drop(t, s, 1, true)
	for at := range 6 {
		for n := range 6 - at {
			first, _ := s.Look(2, at, n)
			second, _ := s.Look(2, at, n)
			spoil(first)
			holds(t, s, s.Used(), one{2, 3, 1, "defgh"})
			if string(second) != "defgh"[at:at+n] {
				t.Errorf("one answer is written into another: %q", second)
			}
		}
	}
	kept, _ := s.Look(2, 1, 3)
	slide(t, s, 3)
	drop(t, s, 2, true)
	grant(t, s, "123456789", 1, true)
	if string(kept) != "efg" {
		t.Errorf("what was answered is now %q", kept)
	}
}

// spoil writes over a list, spare room included.
func spoil(b []byte) {
	b = b[:cap(b)]
	copy(b, bytes.Repeat([]byte{'!'}, len(b)))
}

// R4: so are handles that are answered.
func TestHandlesAreNew(t *testing.T) {
	s := of(t, 9, "a", "b", "c")
	first, second := s.Handles(), s.Handles()
	first = first[:cap(first)]
	for i := range first {
		first[i] = -7
	}
	drop(t, s, 2, true)
	holds(t, s, 3, one{1, 0, 1, "a"}, one{3, 2, 1, "c"})
	if !slices.Equal(second, []int{1, 2, 3}) {
		t.Errorf("Handles that were answered are now %v", second)
	}
}
