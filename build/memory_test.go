package build

import (
	"reflect"
	"slices"
	"testing"
	"unsafe"

	"tenement/api"
	"tenement/arena"
	"tenement/atoms"
	"tenement/term"
	"tenement/word"
)

// span is where a list lies in memory, spare room too.
type span struct {
	from, to uintptr
}

func add[T any](at []span, l []T) []span {
	if cap(l) == 0 {
		return at
	}
	from := uintptr(unsafe.Pointer(unsafe.SliceData(l)))
	return append(at, span{from, from + uintptr(cap(l))*unsafe.Sizeof(l[:1][0])})
}

// spans adds those of all lists of a term.
func spans(at []span, x api.Term) []span {
	at = add(add(add(at, x.D), x.B), x.L)
	for _, y := range x.L {
		at = spans(at, y)
	}
	return at
}

// apart tells whether no two of these overlap.
func apart(at []span) bool {
	slices.SortFunc(at, func(a, b span) int { return int(a.from) - int(b.from) })
	for i := 1; i < len(at); i++ {
		if at[i].from < at[i-1].to {
			return false
		}
	}
	return true
}

// spacious is x with room behind each list, which holds what must stay.
func spacious(x api.Term) api.Term {
	x.D = append(slices.Clone(x.D), 11, 22)[:len(x.D)]
	x.B = append(slices.Clone(x.B), 11, 22)[:len(x.B)]
	l := make([]api.Term, len(x.L), len(x.L)+2)
	for i, y := range x.L {
		l[i] = spacious(y)
	}
	x.L = append(l, term.Atom("spare"), term.Int(44))[:len(l)]
	return x
}

// picture is all that can be told of a term, spare room too.
func picture(x api.Term) api.Term {
	x.D = slices.Clone(x.D[:cap(x.D)])
	x.B = slices.Clone(x.B[:cap(x.B)])
	l := make([]api.Term, cap(x.L))
	for i, y := range x.L[:cap(x.L)] {
		l[i] = picture(y)
	}
	x.L = l
	return x
}

// mixed has a list of each kind.
func mixed() api.Term {
	return term.Tuple(term.Int(1<<60), term.Bin([]byte("b1")), term.List(term.Int(3), term.Atom("a"), term.Tuple(term.Bin([]byte("b2")))), term.Bin([]byte("b1")), term.Bin(nil), term.Tuple())
}

// scribbler writes over all that it is handed, room behind it too, and keeps it.
type scribbler struct{ kept [][]byte }

func (s *scribbler) Grant(b []byte) (int, bool) {
	s.kept = append(s.kept, b)
	b = b[:cap(b)]
	for i := range b {
		b[i] = 99
	}
	return len(s.kept), len(s.kept) < 4
}

func (s *scribbler) Look(handle, at, n int) ([]byte, bool) { return nil, false }
func (s *scribbler) Drop(handle int) bool                  { return true }

// R4: what is put is not changed, spare room too, whether it is taken or refused, whoever holds bytes.
func TestPutChangesNothing(t *testing.T) {
	for _, x := range []api.Term{mixed(), term.Tuple(mixed(), mixed()), term.Tuple(mixed(), api.Term{Kind: 9}), term.Bin([]byte("b")), term.Int(1 << 60)} {
		for _, size := range []int{0, 20, 1000} {
			for _, in := range []Bytes{nil, roomy(), &bag{room: 1}, &scribbler{}} {
				x = spacious(x)
				was := picture(x)
				Put(arena.New(size), atoms.New(), x, in)
				if !reflect.DeepEqual(picture(x), was) {
					t.Errorf("size %d, bytes by %T: the term is changed", size, in)
				}
			}
		}
	}
}

// R4: who grants bytes may keep what it is handed: that is none of the term's memory.
func TestGrantedBytesAreCopies(t *testing.T) {
	x, s := spacious(mixed()), &scribbler{}
	Put(arena.New(100), atoms.New(), x, s)
	at := spans(nil, x)
	for _, b := range s.kept {
		at = add(at, b)
	}
	if len(s.kept) != 3 || !apart(at) {
		t.Errorf("of %d lists of bytes some are the term's", len(s.kept))
	}
}

// scratch writes over all of x, spare room too.
func scratch(x api.Term) {
	for _, y := range x.L {
		scratch(y)
	}
	clear(x.D[:cap(x.D)])
	clear(x.B[:cap(x.B)])
	clear(x.L[:cap(x.L)])
}

// R4: what was put is not kept, and what was read is new memory: the next reading does not hang on it.
func TestNothingIsKept(t *testing.T) {
	a, n, b := arena.New(100), atoms.New(), roomy()
	x := spacious(mixed())
	w, _ := Put(a, n, x, b)
	scratch(x)
	words := a.Words()
	for range 3 {
		got, ok := Get(a, n, w, b)
		if !ok || !term.Same(got, mixed()) {
			t.Fatalf("%v, %v", got, ok)
		}
		scratch(got)
	}
	fit(t, "what is read", a, words...)
}

// R4: no two lists of an answer share memory, nor with what looks up; what is shared in the heap neither.
func TestGetIsNewMemory(t *testing.T) {
	a, b := arena.New(100), &bag{first: 1, rows: [][]byte{[]byte("hello")}}
	n := atoms.New()
	list, _ := Put(a, n, term.List(term.Int(1<<60), term.Tuple(term.Int(2))), nil)
	bin, _ := Fresh(a, word.Header{Kind: word.Bin, Size: 3, Tree: 1})
	at := int(word.Value(bin))
	a.Set(at+1, 1)
	a.Set(at+3, 5)
	w := pair(a, pair(a, bin, bin), pair(a, list, list))
	x, ok := Get(a, n, w, b)
	y, _ := Get(a, n, w, b)
	if !ok || !apart(add(spans(spans(nil, x), y), b.rows[0])) {
		t.Errorf("%v, %v: lists share memory", x, ok)
	}
}
