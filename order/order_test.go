package order

import (
	"cmp"
	"math"
	"slices"
	"strings"
	"testing"

	"tenement/api"
	"tenement/big"
	"tenement/term"
)

// none are kinds that there are not.
func none() []int { return []int{math.MinInt, -2, -1, 8, 9, 1 << 40, math.MaxInt} }

// limbs are n of them, all of that worth.
func limbs(n int, worth uint32) []uint32 {
	d := make([]uint32, n)
	for i := range d {
		d[i] = worth
	}
	return d
}

func positive(d ...uint32) api.Term { return term.Num(big.Num{D: d}) }

func negative(d ...uint32) api.Term { return term.Num(big.Num{Neg: true, D: d}) }

// with are limbs of which one is another, counted from the lowest.
func with(d []uint32, at int, worth uint32) []uint32 {
	d = slices.Clone(d)
	d[at] = worth
	return d
}

// tuple and cons are made without the makers, on the items as they are: also such as may not be.
func tuple(l ...api.Term) api.Term { return api.Term{Kind: api.Tuple, L: l} }

func cons(l ...api.Term) api.Term { return api.Term{Kind: api.Cons, L: l} }

func ints(l ...int64) []api.Term {
	all := make([]api.Term, len(l))
	for i, n := range l {
		all[i] = term.Int(n)
	}
	return all
}

// row is a list of these numbers.
func row(l ...int64) api.Term { return term.List(ints(l...)...) }

// nested is x in that many Tuples of one item each.
func nested(deep int, x api.Term) api.Term {
	for range deep {
		x = tuple(x)
	}
	return x
}

// leaning is x in that many Conses' heads.
func leaning(deep int, x api.Term) api.Term {
	for range deep {
		x = cons(x, term.Nil())
	}
	return x
}

// chain is a list of that many noughts with that end.
func chain(n int, end api.Term) api.Term {
	for range n {
		end = cons(term.Int(0), end)
	}
	return end
}

// rising asks that each of these is below those behind it, and 0 of itself made anew.
func rising(t *testing.T, l []api.Term) {
	t.Helper()
	for i, a := range l {
		for j, b := range l {
			if got := Compare(a, term.Copy(b)); got != cmp.Compare(i, j) {
				t.Errorf("%d against %d is %d", i, j, got)
			}
		}
	}
}

// The chapter's examples.
func TestExamples(t *testing.T) {
	if got := Compare(term.Int(5), term.Atom("a")); got != -1 {
		t.Errorf("Int(5) against Atom(a) is %d", got)
	}
	if got := Compare(term.Tuple(), term.Nil()); got != -1 {
		t.Errorf("Tuple() against Nil() is %d", got)
	}
}

// ofKinds are a low one and a high one of each kind, the kinds in api's order.
func ofKinds() [][]api.Term {
	bin := make([]byte, api.MaxBin)
	for i := range bin {
		bin[i] = 255
	}
	return [][]api.Term{
		{negative(limbs(64, math.MaxUint32)...), term.Int(0), positive(limbs(64, math.MaxUint32)...)},
		{term.Atom(""), term.Atom(strings.Repeat("\U0010ffff", api.MaxAtom))},
		{term.Ref(0), term.Ref(1 << 30)},
		{term.Pid(0), term.Pid(1 << 30)},
		{term.Tuple(), term.Tuple(slices.Repeat([]api.Term{term.Bin(bin)}, api.MaxTuple)...)},
		{term.Nil()},
		{term.Cons(term.Int(-1), term.Int(-1)), term.Cons(term.Bin(bin), term.Bin(bin))},
		{term.Bin(nil), term.Bin(bin)},
	}
}

// P6.1: each kind against each other kind, in api's order, whatever the terms hold; alone and as parts.
func TestKinds(t *testing.T) {
	all := ofKinds()
	if len(all) != api.Bin+1 {
		t.Fatal("not all kinds")
	}
	for i, as := range all {
		for j, bs := range all {
			if i == j {
				rising(t, as)
				continue
			}
			for _, a := range as {
				for _, b := range bs {
					want := cmp.Compare(i, j)
					if a.Kind != i || Compare(a, b) != want || Compare(tuple(a, b), tuple(b, a)) != want || Compare(cons(a, b), cons(b, a)) != want || Compare(cons(b, a), cons(b, b)) != want {
						t.Errorf("kind %d against %d is %d", i, j, Compare(a, b))
					}
				}
			}
		}
	}
}

// P6.1: Ints by number: either sign, one limb and many, such as part in the lowest limb and in the highest.
func TestInts(t *testing.T) {
	const most = math.MaxUint32
	fives := limbs(64, 5)
	up := [][]uint32{
		{1}, {2}, {1<<31 - 1}, {1 << 31}, {most}, {0, 1}, {1, 1}, {most, 1}, {0, 2}, {1, 2}, {most, most}, {0, 0, 1}, {0, most, 1}, {most, 0, 2}, limbs(63, most),
		with(fives, 63, 4), with(fives, 0, 4), fives, with(fives, 0, 6), with(fives, 1, 6), with(fives, 63, 6), limbs(64, most),
	}
	var all []api.Term
	for _, d := range slices.Backward(up) {
		all = append(all, negative(d...))
	}
	all = append(all, term.Int(0))
	for _, d := range up {
		all = append(all, positive(d...))
	}
	rising(t, all)
	rising(t, ints(math.MinInt64, math.MinInt64+1, -1<<59-1, -1<<59, -1<<32, -1, 0, 1, 1<<32, 1<<59-1, 1<<59, math.MaxInt64-1, math.MaxInt64))
}

// P6.1: Atoms by their signs' numbers: not by how many bytes or signs they have, not by letters, not by halves of 16 bits; a beginning is ahead.
func TestAtoms(t *testing.T) {
	var all []api.Term
	for _, name := range []string{"", "\x00", "\x00\x00", "B", "a", "aB", "aa", "aaaaaaaa", "ab", "az", "aé", "a\uffff", "a\U00010000", "b", "e", "e\u0301", "z", "zz", "\u0080", "é", "éa", "éé", "ê", "\u07ff", "\u0800", "\ud7ff", "\ue000", "\ufffd", "\uffff", "\uffff\uffff", "\U00010000", "\U0001ffff", "\U00020000", "\U0010ffff"} {
		all = append(all, term.Atom(name))
	}
	rising(t, all)
	long := strings.Repeat("é", api.MaxAtom-1)
	rising(t, []api.Term{term.Atom(long), term.Atom(long + "a"), term.Atom(long + "é"), term.Atom(long[2:] + "ê")})
}

// P6.1: Refs and Pids by number; of the same number, and of any, a Ref is ahead.
func TestRefsAndPids(t *testing.T) {
	numbers := []int{math.MinInt, -1 << 32, -2, -1, 0, 1, 2, 255, 256, 1 << 30, 1<<30 + 1, 1 << 32, math.MaxInt}
	var all []api.Term
	for _, n := range numbers {
		all = append(all, term.Ref(n))
	}
	for _, n := range numbers {
		all = append(all, term.Pid(n))
	}
	rising(t, all)
}

// P6.1: Tuples by how many items they have, whatever these are; then item by item, the first that parts.
func TestTuples(t *testing.T) {
	bin := term.Bin([]byte{255})
	all := []api.Term{
		tuple(),
		tuple(term.Int(-9)), tuple(term.Int(9)), tuple(tuple(bin, bin, bin)), tuple(bin),
		tuple(ints(-9, -9)...), tuple(ints(1, 2)...), tuple(ints(1, 3)...), tuple(ints(2, 1)...), tuple(bin, bin),
		tuple(ints(-9, -9, -9)...), tuple(ints(1, 5, 9)...), tuple(ints(1, 6, 2)...), tuple(ints(1, 6, 3)...), tuple(ints(2, 0, 0)...),
		tuple(tuple(), tuple(bin, bin), tuple()), tuple(tuple(bin), tuple(), tuple()), tuple(tuple(bin), tuple(), tuple(bin)),
	}
	wide := slices.Repeat(ints(5), api.MaxTuple)
	for _, at := range []int{0, 1, api.MaxTuple - 1} {
		all = append(all, tuple(replaced(wide, at, term.Int(4))...))
	}
	all = append(all, tuple(wide...))
	for _, at := range []int{api.MaxTuple - 1, 1, 0} {
		all = append(all, tuple(replaced(wide, at, term.Int(6))...))
	}
	rising(t, all)
}

// replaced are items of which one is another.
func replaced(l []api.Term, at int, x api.Term) []api.Term {
	l = slices.Clone(l)
	l[at] = x
	return l
}

// P6.1: Conses by their heads, then their tails: so lists part in the first item that differs, and a beginning comes ahead of what goes on by a Cons.
func TestConses(t *testing.T) {
	bin := term.Bin(nil)
	one := term.Int(1)
	rising(t, []api.Term{
		row(-5, 9, 9), row(-5, 10),
		cons(one, term.Int(0)), cons(one, term.Int(2)), cons(one, term.Atom("")), cons(one, tuple(bin)),
		row(1), row(1, 1), row(1, 1, 1), row(1, 2), row(1, 2, 0), cons(one, cons(term.Int(3), term.Int(9))), row(1, 3), cons(one, bin),
		row(2), row(2, -1),
		cons(term.Nil(), term.Nil()), cons(term.Nil(), bin),
		term.List(row(0), row(9)), term.List(row(0, 0)), term.List(row(0, 0), term.Int(5)), term.List(row(0, 1), term.Int(4)), term.List(row(1)), term.List(row(1), term.Int(0)),
		cons(bin, term.Int(0)), cons(bin, bin),
	})
}

// P6.1: Bins byte by byte, a beginning ahead, however long they are.
func TestBins(t *testing.T) {
	var all []api.Term
	for _, b := range []string{"", "\x00", "\x00\x00", "\x00\x01", "\x01", "\x01\x00", "\x01\x00\xff", "\x01\x01", "\x01\xff\xff", "\x02", "\x7f\xff", "\x80", "\xff", "\xff\x00", "\xff\xff"} {
		all = append(all, term.Bin([]byte(b)))
	}
	rising(t, all)
	most := make([]byte, api.MaxBin)
	rising(t, []api.Term{term.Bin(most[1:]), term.Bin(most), term.Bin(append(most[1:len(most):len(most)], 1)), term.Bin([]byte{1})})
}

// P6.1: the first place that parts counts, in whatever part it lies, and nothing behind it.
func TestFirstPlaceThatParts(t *testing.T) {
	high, low := term.Bin([]byte{9}), term.Int(-9)
	for _, in := range []func(a, b api.Term) api.Term{
		func(a, b api.Term) api.Term { return tuple(a, b) },
		func(a, b api.Term) api.Term { return cons(a, b) },
		func(a, b api.Term) api.Term { return tuple(tuple(a), b) },
		func(a, b api.Term) api.Term { return tuple(tuple(a, tuple(b)), low) },
		func(a, b api.Term) api.Term { return tuple(cons(low, a), cons(b, low)) },
		func(a, b api.Term) api.Term { return cons(tuple(row(1), row(2), a), tuple(b)) },
		func(a, b api.Term) api.Term { return term.List(row(1, 2), term.List(a), high, b) },
		func(a, b api.Term) api.Term { return cons(cons(cons(cons(low, a), low), low), b) },
		func(a, b api.Term) api.Term { return tuple(chain(500, a), nested(500, b)) },
		func(a, b api.Term) api.Term { return cons(leaning(500, a), chain(500, b)) },
	} {
		x, y := term.Int(1), term.Int(2)
		if Compare(in(x, high), in(y, low)) != -1 || Compare(in(y, low), in(x, high)) != 1 || Compare(in(x, low), in(x, high)) != -1 || Compare(in(x, high), in(x, low)) != 1 || Compare(in(x, y), in(x, y)) != 0 {
			t.Error("a place behind the first that parts counts, or that one does not")
		}
	}
}

// P6.1, Limits: deep terms and long ones, up to 2^16 parts in one another.
func TestDeepAndLong(t *testing.T) {
	for name, in := range map[string]func(n int, x api.Term) api.Term{"nested": nested, "leaning": leaning, "chain": chain} {
		for _, n := range []int{1, 1000, 32000, 65535} {
			x, y := in(n, term.Int(1)), in(n, term.Int(2))
			if Compare(x, y) != -1 || Compare(y, x) != 1 || Compare(x, in(n, term.Int(1))) != 0 {
				t.Errorf("%s, %d deep: %d, %d, %d", name, n, Compare(x, y), Compare(y, x), Compare(x, in(n, term.Int(1))))
			}
			if got := Compare(tuple(x, term.Int(2)), tuple(in(n, term.Int(1)), term.Int(1))); got != 1 {
				t.Errorf("%s, %d deep, an item behind: %d", name, n, got)
			}
		}
	}
	rising(t, []api.Term{nested(3, term.Int(0)), nested(4, term.Int(0)), nested(3, term.Nil())})
	rising(t, []api.Term{chain(29999, term.Int(0)), chain(29999, term.Nil()), chain(30000, term.Int(0)), chain(30000, term.Nil()), chain(30000, row(1))})
}

// R4: a nil list and an empty one are one.
func TestNilAndEmpty(t *testing.T) {
	for _, kind := range []int{api.Int, api.Tuple, api.Nil, api.Cons, api.Bin, 77} {
		a, b := api.Term{Kind: kind}, api.Term{Kind: kind, D: []uint32{}, L: []api.Term{}, B: []byte{}}
		if Compare(a, b) != 0 || Compare(b, a) != 0 || Compare(tuple(a), tuple(b)) != 0 {
			t.Errorf("kind %d: %d", kind, Compare(a, b))
		}
	}
	for _, l := range [][]api.Term{nil, {}, make([]api.Term, 0, 5)} {
		if got := Sort(l); len(got) != 0 {
			t.Errorf("Sort of none is %v", got)
		}
		if got, ok := Max(l); ok || !plainly(got, api.Term{}) {
			t.Errorf("Max of none is %v, %v", got, ok)
		}
	}
}
