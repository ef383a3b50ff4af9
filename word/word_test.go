package word

import (
	"math"
	"testing"

	"tenement/api"
)

const nilWord = api.Word(4) // Nil with the value 0

// numbers are values at and around the edges of what fits, and far from them.
func numbers() []int64 {
	out := []int64{math.MinInt64, math.MinInt64 + 1, math.MaxInt64 - 1, math.MaxInt64}
	for s := 0; s < 63; s++ {
		p := int64(1) << s
		out = append(out, p-1, p, p+1, -p-1, -p, 1-p)
	}
	return out
}

// sizes are numbers at and around the edges of a Size or a Tree, and far from them.
func sizes() []int {
	out := []int{math.MinInt, math.MaxInt}
	for s := 0; s < 63; s++ {
		p := 1 << s
		out = append(out, p-1, p, p+1, -p)
	}
	return out
}

func TestTagsAndKindsCount(t *testing.T) {
	for want, got := range []int{Small, Atom, Pid, Ref, Nil, Ptr, Head, Link} {
		if got != want {
			t.Errorf("tag %d is %d", want, got)
		}
	}
	for want, got := range []int{Cons, Tuple, Big, Bin} {
		if got != want {
			t.Errorf("kind %d is %d", want, got)
		}
	}
}

func TestExample(t *testing.T) {
	w := Of(Small, -1)
	if w != 0xfffffffffffffff0 || Tag(w) != 0 || Value(w) != -1 {
		t.Errorf("Of(Small, -1): %x, tag %d, value %d", uint64(w), Tag(w), Value(w))
	}
}

// P1.1: the words themselves, bit by bit.
func TestOf(t *testing.T) {
	for _, x := range []struct {
		tag  int
		n    int64
		want api.Word
	}{
		{Small, 0, 0x0},
		{Small, 5, 0x50},
		{Atom, 1, 0x11},
		{Pid, 2, 0x22},
		{Ref, 3, 0x33},
		{Nil, 0, 0x4},
		{Nil, 7, 0x74},
		{Ptr, 256, 0x1005},
		{Head, 9, 0x96},
		{Head, -1, 0xfffffffffffffff6},
		{Link, -2, 0xffffffffffffffe7},
		{Small, 1<<59 - 1, 0x7ffffffffffffff0},
		{Link, 1<<59 - 1, 0x7ffffffffffffff7},
		{Small, -1 << 59, 0x8000000000000000},
		{Link, -1 << 59, 0x8000000000000007},
	} {
		if got := Of(x.tag, x.n); got != x.want {
			t.Errorf("Of(%d, %d): %x, want %x", x.tag, x.n, uint64(got), uint64(x.want))
		}
	}
}

// P1.1: a tag that is none.
func TestOfWrongTag(t *testing.T) {
	for _, tag := range []int{-1, -2, -8, -16, 8, 9, 12, 15, 16, 20, 1 << 20, 1<<32 + 1, math.MinInt, math.MaxInt} {
		for _, n := range []int64{0, 1, -1, 1<<59 - 1, 1 << 59, math.MinInt64} {
			if got := Of(tag, n); got != nilWord {
				t.Errorf("Of(%d, %d): %x, want Nil with the value 0", tag, n, uint64(got))
			}
		}
	}
}

// P1.1: a value that does not fit.
func TestOfWrongValue(t *testing.T) {
	for tag := Small; tag <= Link; tag++ {
		for _, n := range []int64{1 << 59, 1<<59 + 1, 1 << 60, 1 << 62, math.MaxInt64, -1<<59 - 1, -1 << 60, math.MinInt64} {
			if got := Of(tag, n); got != nilWord {
				t.Errorf("Of(%d, %d): %x, want Nil with the value 0", tag, n, uint64(got))
			}
		}
	}
}

// P1.1: from -2^59 to 2^59 - 1.
func TestFits(t *testing.T) {
	for _, n := range []int64{0, 1, -1, 1 << 32, -1 << 32, 1<<59 - 2, 1<<59 - 1, -1<<59 + 1, -1 << 59} {
		if !Fits(n) {
			t.Errorf("%d does not fit", n)
		}
	}
	for _, n := range []int64{1 << 59, 1<<59 + 1, 1 << 60, 1 << 62, math.MaxInt64, -1<<59 - 1, -1 << 60, math.MinInt64} {
		if Fits(n) {
			t.Errorf("%d fits", n)
		}
	}
}

// P1.1: any word has a tag, one that is none too, and a value with a sign.
func TestTagAndValue(t *testing.T) {
	for low := range 16 {
		for _, x := range []struct {
			high uint64
			want int64
		}{
			{0, 0},
			{1, 1},
			{1<<59 - 1, 1<<59 - 1},
			{1 << 59, -1 << 59},
			{1<<60 - 1, -1},
			{1<<60 - 256, -256},
		} {
			w := api.Word(x.high<<4 | uint64(low))
			if Tag(w) != low || Value(w) != x.want {
				t.Errorf("%x: tag %d, want %d; value %d, want %d", uint64(w), Tag(w), low, Value(w), x.want)
			}
		}
	}
}

// P1.2: the words themselves: Kind in bits 0 and 1 of the value, Neg in 2, Size in 3 to 22, Tree in 23 to 42.
func TestMake(t *testing.T) {
	const most = 1<<20 - 1
	for _, x := range []struct {
		h     Header
		value uint64
	}{
		{Header{}, 0},
		{Header{Kind: Tuple}, 1},
		{Header{Kind: Big}, 2},
		{Header{Kind: Bin}, 3},
		{Header{Neg: true}, 4},
		{Header{Size: 1}, 1 << 3},
		{Header{Tree: 1}, 1 << 23},
		{Header{Size: most}, most << 3},
		{Header{Tree: most}, most << 23},
		{Header{Kind: Tuple, Size: 1, Tree: 2}, 1 | 1<<3 | 2<<23},
		{Header{Kind: Big, Size: 3, Tree: 1, Neg: true}, 2 | 1<<2 | 3<<3 | 1<<23},
		{Header{Kind: Bin, Size: most, Tree: most, Neg: true}, 1<<43 - 1},
	} {
		if got, want := Make(x.h), api.Word(x.value<<4|6); got != want {
			t.Errorf("Make(%+v): %x, want %x", x.h, uint64(got), uint64(want))
		}
	}
}

// P1.2: a Kind, a Size or a Tree that may not be, whatever the other fields are.
func TestMakeWrong(t *testing.T) {
	var wrong []Header
	for _, k := range []int{-1, -4, 4, 5, 8, 1 << 20, 1<<32 + 1, math.MinInt, math.MaxInt} {
		wrong = append(wrong, Header{Kind: k}, Header{Kind: k, Size: 3, Tree: 4, Neg: true})
	}
	for _, n := range []int{-1, -2, -1 << 20, 1 << 20, 1<<20 + 1, 1 << 21, 1<<32 + 1, math.MinInt, math.MaxInt} {
		for k := Cons; k <= Bin; k++ {
			wrong = append(wrong,
				Header{Kind: k, Size: n},
				Header{Kind: k, Size: n, Tree: 1, Neg: true},
				Header{Kind: k, Tree: n},
				Header{Kind: k, Size: 1, Tree: n, Neg: true},
				Header{Kind: k, Size: n, Tree: n})
		}
	}
	for _, h := range wrong {
		if got := Make(h); got != nilWord {
			t.Errorf("Make(%+v): %x, want Nil with the value 0", h, uint64(got))
		}
	}
}

// P1.2: headers that were not made by Make are read too.
func TestRead(t *testing.T) {
	for _, x := range []struct {
		value uint64
		want  Header
	}{
		{0, Header{}},
		{1, Header{Kind: Tuple}},
		{2, Header{Kind: Big}},
		{3, Header{Kind: Bin}},
		{4, Header{Neg: true}},
		{1 << 3, Header{Size: 1}},
		{1 << 22, Header{Size: 1 << 19}},
		{1 << 23, Header{Tree: 1}},
		{1 << 42, Header{Tree: 1 << 19}},
		{1<<43 - 1, Header{Kind: Bin, Neg: true, Size: 1<<20 - 1, Tree: 1<<20 - 1}},
	} {
		if got, ok := Read(api.Word(x.value<<4 | 6)); !ok || got != x.want {
			t.Errorf("Read of the value %x: %+v %v, want %+v", x.value, got, ok, x.want)
		}
	}
}

// P1.2, R2: what is no header is not read, and nothing is answered beside the false.
func TestReadWrong(t *testing.T) {
	var wrong []api.Word
	good := uint64(Make(Header{Kind: Big, Size: 3, Tree: 4, Neg: true}))
	for low := range uint64(16) {
		if low != Head {
			wrong = append(wrong, api.Word(low), api.Word(good&^15|low), api.Word(1<<64-16|low))
		}
	}
	for bit := 43; bit < 60; bit++ {
		wrong = append(wrong, api.Word(good|1<<(bit+4)), api.Word(uint64(1)<<(bit+4)|Head))
	}
	wrong = append(wrong, Of(Head, -1), Of(Head, 1<<43), Of(Head, 1<<59-1), Of(Head, -1<<59), Make(Header{Kind: 4}))
	for _, w := range wrong {
		if h, ok := Read(w); ok || h != (Header{}) {
			t.Errorf("Read(%x): %+v %v, want nothing", uint64(w), h, ok)
		}
	}
}

// P1.2: what Fields says hangs on the Kind, and of a Tuple on its Size.
func TestFields(t *testing.T) {
	for _, x := range []struct {
		h    Header
		want int
	}{
		{Header{Kind: Cons, Size: 2}, 2},
		{Header{Kind: Cons}, 2},
		{Header{Kind: Cons, Size: 5}, 2},
		{Header{Kind: Cons, Size: 1 << 20}, 2},
		{Header{Kind: Cons, Tree: -1}, 2},
		{Header{Kind: Tuple}, 0},
		{Header{Kind: Tuple, Size: 3, Tree: 4}, 3},
		{Header{Kind: Tuple, Size: 3, Tree: -1, Neg: true}, 3},
		{Header{Kind: Tuple, Size: 255}, 255},
		{Header{Kind: Tuple, Size: 1<<20 - 1}, 1<<20 - 1},
		{Header{Kind: Tuple, Size: 1 << 20}, 1 << 20},
		{Header{Kind: Tuple, Size: -1}, -1},
		{Header{Kind: Big, Size: 3, Neg: true}, 0},
		{Header{Kind: Bin, Size: 3}, 0},
		{Header{Kind: 4, Size: 3}, 0},
		{Header{Kind: -1, Size: 3}, 0},
		{Header{Kind: math.MaxInt, Size: 3}, 0},
	} {
		if got := Fields(x.h); got != x.want {
			t.Errorf("Fields(%+v): %d, want %d", x.h, got, x.want)
		}
	}
}

// P1.3: of words.
func TestMadeIsReadWords(t *testing.T) {
	for tag := Small; tag <= Link; tag++ {
		for _, n := range numbers() {
			if !Fits(n) {
				continue
			}
			if w := Of(tag, n); Tag(w) != tag || Value(w) != n {
				t.Errorf("Of(%d, %d): tag %d, value %d", tag, n, Tag(w), Value(w))
			}
		}
	}
}

// P1.3: of headers.
func TestMadeIsReadHeaders(t *testing.T) {
	for k := Cons; k <= Bin; k++ {
		for s := 0; s < 1<<20; s += 1 + s/3 {
			for tree := 1<<20 - 1; tree >= 0; tree -= 1 + tree/3 {
				for _, neg := range []bool{false, true} {
					h := Header{Kind: k, Size: s, Tree: tree, Neg: neg}
					w := Make(h)
					if got, ok := Read(w); !ok || got != h || Tag(w) != Head {
						t.Fatalf("Make(%+v) is read as %+v %v", h, got, ok)
					}
				}
			}
		}
	}
}

// P1.3: a word that is read as a header is the one that Make makes of it.
func TestReadIsMade(t *testing.T) {
	for v := uint64(0); v < 1<<43; v += 1 + v/7 {
		w := api.Word(v<<4 | 6)
		if h, ok := Read(w); !ok || Make(h) != w {
			t.Fatalf("%x: %+v %v is made %x", uint64(w), h, ok, uint64(Make(h)))
		}
	}
}

// R1, R5: no arguments make a call panic, and the same arguments have the same answers.
func TestAnyArguments(t *testing.T) {
	for _, n := range numbers() {
		for _, tag := range sizes() {
			if Of(tag, n) != Of(tag, n) {
				t.Errorf("Of(%d, %d): two answers", tag, n)
			}
		}
		w := api.Word(n)
		if got := api.Word(Value(w))<<4 | api.Word(Tag(w)); got != w {
			t.Errorf("%x is taken apart as %x", uint64(w), uint64(got))
		}
		a, aOK := Read(w)
		b, bOK := Read(w)
		if a != b || aOK != bOK {
			t.Errorf("Read(%x): two answers", uint64(w))
		}
	}
	for _, k := range []int{math.MinInt, -1, Cons, Tuple, Big, Bin, 4, math.MaxInt} {
		for _, s := range sizes() {
			for _, tree := range sizes() {
				h := Header{Kind: k, Size: s, Tree: tree, Neg: s < tree}
				if Make(h) != Make(h) || Fields(h) != Fields(h) {
					t.Fatalf("%+v: two answers", h)
				}
			}
		}
	}
}

// Limits: a heap, a tree and the objects at api's limits have room in words.
func TestLimitsHaveRoom(t *testing.T) {
	if w := Of(Ptr, api.MaxWords); Tag(w) != Ptr || Value(w) != api.MaxWords {
		t.Errorf("a heap's end: %x", uint64(w))
	}
	for _, h := range []Header{
		{Kind: Tuple, Size: api.MaxTuple, Tree: api.MaxTree},
		{Kind: Big, Size: api.MaxLimbs, Tree: 1, Neg: true},
		{Kind: Bin, Size: api.MaxBin, Tree: 1},
		{Kind: Cons, Size: 2, Tree: api.MaxTree},
	} {
		if got, ok := Read(Make(h)); !ok || got != h {
			t.Errorf("%+v is read as %+v %v", h, got, ok)
		}
	}
}
