package order

import (
	"math/rand/v2"
	"slices"
	"testing"

	"tenement/api"
	"tenement/term"
)

// plainly holds terms against each other as they are written, with nil and empty lists alike.
func plainly(a, b api.Term) bool {
	return a.Kind == b.Kind && a.Neg == b.Neg && a.Name == b.Name && a.N == b.N && slices.Equal(a.D, b.D) && slices.Equal(a.B, b.B) && plainlyAll(a.L, b.L)
}

func plainlyAll(a, b []api.Term) bool { return slices.EqualFunc(a, b, plainly) }

// marked is a number that can be told from equal ones by its noughts at the end.
func marked(n uint32, mark int) api.Term {
	return api.Term{D: append([]uint32{n}, make([]uint32, mark)...)}
}

// orders are all rows of these.
func orders(l []api.Term) [][]api.Term {
	if len(l) == 0 {
		return [][]api.Term{nil}
	}
	var all [][]api.Term
	for _, rest := range orders(l[1:]) {
		for at := range len(l) {
			all = append(all, slices.Insert(slices.Clone(rest), at, l[0]))
		}
	}
	return all
}

// P6.2: rows of one, in order, the other way round, in every order.
func TestSort(t *testing.T) {
	want := []api.Term{term.Int(-1), term.Int(1 << 40), term.Atom("a"), tuple(ints(1, 2)...), row(1, 2), term.Bin([]byte{1})}
	for _, l := range orders(want) {
		if got := Sort(l); !plainlyAll(got, want) {
			t.Fatalf("Sort(%+v) is %+v", l, got)
		}
		if got, ok := Max(l); !ok || !plainly(got, want[5]) {
			t.Fatalf("Max(%+v) is %+v, %v", l, got, ok)
		}
	}
	for _, group := range ofKinds() {
		for _, x := range group {
			got, ok := Max([]api.Term{x})
			if !plainlyAll(Sort([]api.Term{x}), []api.Term{x}) || !ok || !plainly(got, x) {
				t.Errorf("one of kind %d", x.Kind)
			}
		}
	}
}

// P6.2: equal ones in their order, in every order of a few, alone and within others.
func TestSortKeepsEqualOnes(t *testing.T) {
	for _, l := range orders([]api.Term{marked(5, 0), marked(5, 1), marked(5, 2), marked(4, 0), marked(4, 1), marked(6, 0)}) {
		var want []api.Term
		for _, n := range []uint32{4, 5, 6} {
			for _, x := range l {
				if x.D[0] == n {
					want = append(want, x)
				}
			}
		}
		if got := Sort(l); !plainlyAll(got, want) {
			t.Fatalf("Sort(%v) is %v", l, got)
		}
		if got := Sort(within(l)); !plainlyAll(got, within(want)) {
			t.Fatalf("Sort of %v within others is %v", l, got)
		}
	}
}

// within are these as parts of others.
func within(l []api.Term) []api.Term {
	var all []api.Term
	for _, x := range l {
		all = append(all, tuple(term.Nil(), cons(x, term.Nil())))
	}
	return all
}

// P6.2: long rows, with few numbers and with many, already in order, the other way round, and by chance.
func TestSortLongRows(t *testing.T) {
	draw := rand.New(rand.NewPCG(6, 2))
	for _, size := range []int{2, 19, 20, 21, 63, 64, 500, 3000} {
		for _, numbers := range []int{1, 2, 7, size, 1 << 20} {
			places := map[uint32][]api.Term{}
			var l []api.Term
			for range size {
				n := uint32(1 + draw.IntN(numbers))
				x := marked(n, len(places[n])%50)
				places[n] = append(places[n], x)
				l = append(l, x)
			}
			var want []api.Term
			for n := range uint32(numbers + 1) {
				want = append(want, places[n]...)
			}
			if got := Sort(l); !plainlyAll(got, want) {
				t.Fatalf("%d of %d numbers are not sorted", size, numbers)
			}
			if got := Sort(want); !plainlyAll(got, want) {
				t.Fatalf("%d of %d numbers, sorted, are not sorted again", size, numbers)
			}
			turned := slices.Clone(want)
			slices.Reverse(turned)
			if got := Sort(turned); !slices.IsSortedFunc(got, Compare) || len(got) != size {
				t.Fatalf("%d of %d numbers, the other way round, are not sorted", size, numbers)
			}
			top := l[0]
			for _, x := range l {
				if x.D[0] > top.D[0] {
					top = x
				}
			}
			if got, ok := Max(l); !ok || !plainly(got, top) {
				t.Fatalf("Max of %d of %d numbers is %v, want %v", size, numbers, got, top)
			}
		}
	}
}

// P6.2: the greatest of none, of one, of equal ones; wherever it lies.
func TestMax(t *testing.T) {
	cases := []struct {
		what string
		l    []api.Term
		want api.Term
	}{
		{"one", []api.Term{marked(5, 3)}, marked(5, 3)},
		{"one that is zero", []api.Term{{}}, api.Term{}},
		{"two equal ones", []api.Term{marked(5, 1), marked(5, 0)}, marked(5, 1)},
		{"equal ones behind a less", []api.Term{marked(4, 0), marked(5, 2), marked(5, 1), marked(5, 3)}, marked(5, 2)},
		{"equal ones with a less between", []api.Term{marked(5, 2), marked(4, 0), marked(5, 0)}, marked(5, 2)},
		{"the first", []api.Term{marked(9, 0), marked(8, 0), marked(7, 0)}, marked(9, 0)},
		{"the one between", []api.Term{marked(8, 0), marked(9, 0), marked(7, 0)}, marked(9, 0)},
		{"the last", []api.Term{marked(7, 0), marked(8, 0), marked(9, 0)}, marked(9, 0)},
		{"below 0", ints(-5, -2, -9), term.Int(-2)},
		{"by kinds", []api.Term{row(9), term.Int(1 << 50), tuple(ints(1, 2, 3)...), term.Nil()}, row(9)},
	}
	for _, c := range cases {
		if got, ok := Max(c.l); !ok || !plainly(got, c.want) {
			t.Errorf("Max of %s is %+v, %v, want %+v", c.what, got, ok, c.want)
		}
	}
	if got, ok := Max(nil); ok || !plainly(got, api.Term{}) {
		t.Errorf("Max of none is %+v, %v", got, ok)
	}
}
