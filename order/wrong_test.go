package order

import (
	"slices"
	"strings"
	"testing"

	"tenement/api"
	"tenement/term"
)

// plain is a term of that kind that may be, with something in what it uses.
func plain(kind int) api.Term {
	switch kind {
	case api.Int:
		return api.Term{Neg: true, D: []uint32{7}}
	case api.Atom:
		return api.Term{Kind: kind, Name: "ab"}
	case api.Ref, api.Pid:
		return api.Term{Kind: kind, N: 3}
	case api.Tuple, api.Cons:
		return api.Term{Kind: kind, L: []api.Term{{D: []uint32{1}}, {Kind: api.Nil}}}
	case api.Bin:
		return api.Term{Kind: kind, B: []byte{1, 2}}
	}
	return api.Term{Kind: kind}
}

// stuffed are terms like t, each with something in a field that t's kind does not use, and one with all of that.
func stuffed(t api.Term) []api.Term {
	fill := []func(x *api.Term){
		func(x *api.Term) { x.Neg = true },
		func(x *api.Term) { x.D = []uint32{9, 9} },
		func(x *api.Term) { x.Name = "\xff" },
		func(x *api.Term) { x.N = -1 },
		func(x *api.Term) { x.L = []api.Term{{Kind: api.Bin, B: []byte{9}}, {}} },
		func(x *api.Term) { x.B = []byte{255} },
	}
	unused := []bool{t.Kind != api.Int, t.Kind != api.Int, t.Kind != api.Atom, t.Kind != api.Ref && t.Kind != api.Pid, t.Kind != api.Tuple && t.Kind != api.Cons, t.Kind != api.Bin}
	var all []api.Term
	full := t
	for i, f := range fill {
		if unused[i] {
			x := t
			f(&x)
			f(&full)
			all = append(all, x)
		}
	}
	return append(all, full)
}

// Behind R7: what a kind does not use does not count at any of the functions, and is not answered (R2).
func TestUnusedFields(t *testing.T) {
	for kind := range api.Bin + 1 {
		for other := range api.Bin + 1 {
			a, b := plain(kind), plain(other)
			want := Compare(a, b)
			for _, x := range stuffed(a) {
				for _, y := range append(stuffed(b), b) {
					if Compare(x, y) != want || Compare(y, x) != -want || Compare(cons(x, y), cons(y, x)) != want {
						t.Errorf("%+v against %+v is %d, want %d", x, y, Compare(x, y), want)
					}
				}
			}
		}
		for _, x := range stuffed(plain(kind)) {
			top, ok := Max([]api.Term{x})
			if l := Sort([]api.Term{x, tuple(x)}); !ok || !plainly(top, plain(kind)) || !slices.ContainsFunc(l, func(y api.Term) bool { return plainly(y, plain(kind)) }) {
				t.Errorf("%+v is answered as %+v, %+v", x, top, l)
			}
		}
	}
}

// Behind R7: a kind that there is not is as Nil, at each of the functions.
func TestKindsThatAreNone(t *testing.T) {
	for _, n := range none() {
		for kind := range api.Bin + 1 {
			x := plain(kind)
			x.Kind = n
			for other := range api.Bin + 1 {
				want := Compare(term.Nil(), plain(other))
				if Compare(x, plain(other)) != want || Compare(plain(other), x) != -want || Compare(tuple(x), tuple(plain(other))) != want {
					t.Errorf("kind %d against %d is %d", n, other, Compare(x, plain(other)))
				}
			}
			for _, m := range none() {
				if Compare(x, api.Term{Kind: m, N: 5}) != 0 {
					t.Errorf("kind %d is not kind %d", n, m)
				}
			}
			if got, ok := Max([]api.Term{tuple(term.Bin(nil)), x}); !ok || !plainly(got, term.Nil()) {
				t.Errorf("Max of kind %d is %+v", n, got)
			}
			if got := Sort([]api.Term{cons(x, x), x, tuple(x)}); !plainlyAll(got, []api.Term{tuple(term.Nil()), term.Nil(), cons(term.Nil(), term.Nil())}) {
				t.Errorf("Sort with kind %d is %+v", n, got)
			}
		}
	}
}

// Behind R7: an Int with noughts at the end, or a 0 that is Neg, is the number that it is; limbs may be more than MaxLimbs.
func TestWrongInts(t *testing.T) {
	number := func(neg bool, d ...uint32) api.Term { return api.Term{Neg: neg, D: d} }
	groups := [][]api.Term{
		{number(true, limbs(100, 1)...)},
		{number(true, 6), number(true, 6, 0)},
		{number(true, 5), number(true, 5, 0), number(true, append([]uint32{5}, limbs(70, 0)...)...)},
		{number(false), number(true), number(true, 0), number(false, 0, 0), number(true, limbs(65, 0)...)},
		{number(false, 5), number(false, 5, 0, 0)},
		{number(false, 6, 0), number(false, 6)},
		{number(false, 0, 1), number(false, 0, 1, 0)},
		{number(false, limbs(65, 1)...), number(false, append(limbs(65, 1), 0)...)},
		{number(false, limbs(100, 1)...)},
	}
	byGroups(t, groups)
}

// Behind R7: names that are not Valid go by bytes, also against those that are; names and Bins and Tuples may be longer than their limits.
func TestWrongAtomsAndLengths(t *testing.T) {
	name := func(s string) []api.Term { return []api.Term{{Kind: api.Atom, Name: s}} }
	long := strings.Repeat("é", api.MaxAtom)
	byGroups(t, [][]api.Term{
		name(""), name("a"), name("a\x80"), name("aé"), name("a\xff"), name("b"), name("\x80"), name("\xc3"), name("é"), name("é\xc3"), name(long), name(long + "\xc2"), name(long + "é"), name(long + "ê"), name("\xed\xa0\x80"), name("\xef\xbf"), name("\ufffd"), name("\ufffd\xff"), name("\U0010ffff"), name("\xf4\x90\x80\x80"), name("\xff"), name("\xff\xff"),
		{tuple(make([]api.Term, api.MaxTuple)...)}, {tuple(make([]api.Term, api.MaxTuple+1)...)}, {tuple(append(make([]api.Term, api.MaxTuple), term.Int(1))...)}, {tuple(make([]api.Term, 2000)...)},
		{{Kind: api.Bin, B: make([]byte, api.MaxBin)}}, {{Kind: api.Bin, B: make([]byte, api.MaxBin+1)}}, {{Kind: api.Bin, B: append(make([]byte, api.MaxBin), 1)}},
	})
}

// Behind R7: Conses without just a head and a tail: by heads, by tails, by what else there is, and what ends first is less.
func TestWrongConses(t *testing.T) {
	one := func(x api.Term) []api.Term { return []api.Term{x} }
	byGroups(t, [][]api.Term{
		{cons(), {Kind: api.Cons, L: []api.Term{}}},
		one(cons(ints(0)...)), one(cons(ints(0, 0)...)), one(cons(ints(0, 0, 0)...)), one(cons(ints(0, 0, 1)...)), one(cons(ints(0, 1)...)),
		one(cons(ints(1)...)), one(cons(ints(1, 0)...)), one(cons(ints(1, 0, 5, 5)...)), one(cons(ints(1, 1)...)), one(cons(term.Int(1), cons())), one(cons(term.Int(1), cons(term.Int(7)))), one(cons(term.Int(1), row(7))),
		one(cons(tuple(cons()), term.Int(5))), one(cons(tuple(cons(term.Int(0))), term.Int(4))), one(cons(tuple(row(0)), term.Int(3))),
		one(cons(cons(), term.Int(9))), one(cons(cons(term.Int(0)), term.Int(8))), one(cons(row(0), term.Int(7))),
	})
}

// byGroups asks that those of one group are equal, and above those of the groups ahead; alone and in others; by each of the functions.
func byGroups(t *testing.T, groups [][]api.Term) {
	t.Helper()
	var all []api.Term
	for i, as := range groups {
		for j, bs := range groups {
			want := 0
			if i < j {
				want = -1
			} else if i > j {
				want = 1
			}
			for _, a := range as {
				for _, b := range bs {
					if Compare(a, b) != want || Compare(tuple(a), tuple(b)) != want || Compare(cons(term.Nil(), a), cons(term.Nil(), b)) != want || term.Same(a, b) != (want == 0) {
						t.Errorf("group %d against %d: %d, Same %v", i, j, Compare(a, b), term.Same(a, b))
					}
				}
			}
		}
		all = append(all, as...)
		if got, ok := Max(all); !ok || !plainly(got, as[0]) {
			t.Errorf("Max up to group %d is %+v", i, got)
		}
	}
	var turned []api.Term
	for _, as := range slices.Backward(groups) {
		turned = append(turned, as...)
	}
	if !plainlyAll(Sort(turned), all) || !plainlyAll(Sort(all), all) {
		t.Error("the groups are not sorted")
	}
}
