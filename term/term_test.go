package term

import (
	"math"
	"reflect"
	"strings"
	"testing"

	"tenement/api"
	"tenement/big"
)

// kinds are all that there are; none are some that there are not.
func kinds() []int {
	return []int{api.Int, api.Atom, api.Ref, api.Pid, api.Tuple, api.Nil, api.Cons, api.Bin}
}

func none() []int { return []int{math.MinInt, -2, -1, 8, 9, 1 << 40, math.MaxInt} }

// limbs are n of them, none of them 0.
func limbs(n int) []uint32 {
	d := make([]uint32, n)
	for i := range d {
		d[i] = uint32(i + 1)
	}
	return d
}

// plain is a term of that kind that may be, with something in what it uses.
func plain(kind int) api.Term {
	switch kind {
	case api.Int:
		return api.Term{Neg: true, D: []uint32{7}}
	case api.Atom:
		return api.Term{Kind: kind, Name: "ab"}
	case api.Ref, api.Pid:
		return api.Term{Kind: kind, N: 3}
	case api.Tuple, api.Cons:
		return api.Term{Kind: kind, L: []api.Term{{D: []uint32{1}}, {Kind: api.Nil}}}
	case api.Bin:
		return api.Term{Kind: kind, B: []byte{1, 2}}
	}
	return api.Term{Kind: kind}
}

// stuffed are terms like t, each with one field set that t has at zero, by the field's name. Of an Int with limbs, or of others, that is a field that the kind does not use.
func stuffed(t api.Term) map[string]api.Term {
	all := map[string]api.Term{}
	put := func(name string, unset bool, fill func(x *api.Term)) {
		if unset {
			x := t
			fill(&x)
			all[name] = x
		}
	}
	put("Neg", !t.Neg, func(x *api.Term) { x.Neg = true })
	put("D", len(t.D) == 0, func(x *api.Term) { x.D = []uint32{1} })
	put("D 0", len(t.D) == 0, func(x *api.Term) { x.D = []uint32{0} })
	put("Name", t.Name == "", func(x *api.Term) { x.Name = "x" })
	put("Name wrong", t.Name == "", func(x *api.Term) { x.Name = "\xff" })
	put("N", t.N == 0, func(x *api.Term) { x.N = 1 })
	put("N below", t.N == 0, func(x *api.Term) { x.N = -1 })
	put("L", len(t.L) == 0, func(x *api.Term) { x.L = []api.Term{{Kind: api.Nil}} })
	put("L two", len(t.L) == 0, func(x *api.Term) { x.L = []api.Term{{Kind: api.Bin}, {Kind: api.Nil}} })
	put("B", len(t.B) == 0, func(x *api.Term) { x.B = []byte{0} })
	return all
}

// hollow is t with empty lists for those that it has nil.
func hollow(t api.Term) api.Term {
	if t.D == nil {
		t.D = []uint32{}
	}
	if t.L == nil {
		t.L = []api.Term{}
	}
	if t.B == nil {
		t.B = []byte{}
	}
	return t
}

// nested is x in that many Tuples of one item each.
func nested(deep int, x api.Term) api.Term {
	for range deep {
		x = api.Term{Kind: api.Tuple, L: []api.Term{x}}
	}
	return x
}

// leaning is a list whose heads hold all the depth: Conses in Conses' heads.
func leaning(deep int) api.Term {
	x := api.Term{Kind: api.Nil}
	for range deep {
		x = api.Term{Kind: api.Cons, L: []api.Term{x, {Kind: api.Nil}}}
	}
	return x
}

// chain is a list of that many noughts, made without the makers.
func chain(n int, end api.Term) api.Term {
	for range n {
		end = api.Term{Kind: api.Cons, L: []api.Term{{}, end}}
	}
	return end
}

// rows is a Tuple of that many Tuples of 255 Nils each.
func rows(n int) api.Term {
	t := api.Term{Kind: api.Tuple}
	for range n {
		row := api.Term{Kind: api.Tuple, L: make([]api.Term, 255)}
		for i := range row.L {
			row.L[i].Kind = api.Nil
		}
		t.L = append(t.L, row)
	}
	return t
}

func may(t *testing.T, what string, x api.Term, want bool) {
	t.Helper()
	if got := May(x); got != want {
		t.Errorf("May of %s is %v", what, got)
	}
}

// The chapter's examples.
func TestExamples(t *testing.T) {
	l := List(Int(1), Atom("a"))
	if Words(l) != 6 || Tree(l) != 5 {
		t.Errorf("Words %d, Tree %d, want 6, 5", Words(l), Tree(l))
	}
}

// P5.1: each kind that there is, and those that there are not.
func TestMayOfKinds(t *testing.T) {
	for _, k := range kinds() {
		may(t, "a plain one", plain(k), true)
		may(t, "a hollow one", hollow(plain(k)), true)
	}
	for _, k := range none() {
		may(t, "a kind that is none", api.Term{Kind: k}, false)
		may(t, "a Tuple of it", api.Term{Kind: api.Tuple, L: []api.Term{{}, {Kind: k}}}, false)
	}
}

// P5.1: fields that its kind does not use are zero; nil and empty lists are one (R4).
func TestMayWantsUnusedFieldsZero(t *testing.T) {
	for _, k := range kinds() {
		for name, x := range stuffed(plain(k)) {
			may(t, "kind "+string(rune('0'+k))+" with "+name, x, false)
		}
	}
	may(t, "nought", api.Term{}, true)
	for _, k := range []int{api.Atom, api.Tuple, api.Bin, api.Ref, api.Pid} {
		may(t, "an empty one", hollow(api.Term{Kind: k}), true)
		may(t, "an empty one with a sign", api.Term{Kind: k, Neg: true}, false)
	}
}

// P5.1: an Int is a Norm of at most MaxLimbs limbs.
func TestMayOfInts(t *testing.T) {
	just := limbs(api.MaxLimbs)
	for _, neg := range []bool{false, true} {
		may(t, "MaxLimbs limbs", api.Term{Neg: neg, D: just}, true)
		may(t, "one limb more", api.Term{Neg: neg, D: limbs(api.MaxLimbs + 1)}, false)
		may(t, "MaxLimbs limbs and a nought", api.Term{Neg: neg, D: append(just[:len(just):len(just)], 0)}, false)
		may(t, "noughts alone", api.Term{Neg: neg, D: make([]uint32, api.MaxLimbs)}, false)
		may(t, "one nought", api.Term{Neg: neg, D: []uint32{0}}, false)
		may(t, "a nought ahead", api.Term{Neg: neg, D: []uint32{5, 0}}, false)
		may(t, "noughts below", api.Term{Neg: neg, D: []uint32{0, 0, 1}}, true)
		may(t, "one", api.Term{Neg: neg, D: []uint32{1}}, true)
		may(t, "nought", api.Term{Neg: neg}, !neg)
		may(t, "nought, hollow", api.Term{Neg: neg, D: []uint32{}}, !neg)
	}
}

// P5.1: an Atom's name is Valid and has at most MaxAtom signs, however many bytes a sign takes.
func TestMayOfAtoms(t *testing.T) {
	for _, sign := range []string{"a", "é", "€", "😀", "\x00", "\n", "'", "\ufffd"} {
		just := strings.Repeat(sign, api.MaxAtom)
		may(t, "MaxAtom times "+sign, api.Term{Kind: api.Atom, Name: just}, true)
		may(t, "one more", api.Term{Kind: api.Atom, Name: just + sign}, false)
		may(t, "one that is not Valid", api.Term{Kind: api.Atom, Name: sign + "\xff"}, false)
	}
	may(t, "no sign", api.Term{Kind: api.Atom}, true)
	for _, s := range []string{"\xff", "\x80", "\xc3", "a\xe2\x82", "\xc0\xaf", "\xed\xa0\x80", "\xf4\x90\x80\x80", strings.Repeat("\xff", 300)} {
		may(t, "a wrong name", api.Term{Kind: api.Atom, Name: s}, false)
	}
}

// P5.1: a Pid's and a Ref's N is from 0 to 2^30.
func TestMayOfNumbers(t *testing.T) {
	for n, want := range map[int]bool{math.MinInt: false, -1: false, 0: true, 1: true, 1<<30 - 1: true, 1 << 30: true, 1<<30 + 1: false, 1 << 31: false, math.MaxInt: false} {
		may(t, "a Pid", api.Term{Kind: api.Pid, N: n}, want)
		may(t, "a Ref", api.Term{Kind: api.Ref, N: n}, want)
	}
}

// P5.1: how many items a Tuple and a Cons may have, how many bytes a Bin.
func TestMayOfLengths(t *testing.T) {
	for n, want := range map[int]bool{0: true, 1: true, 2: true, api.MaxTuple - 1: true, api.MaxTuple: true, api.MaxTuple + 1: false, api.MaxTree: false} {
		may(t, "a Tuple", api.Term{Kind: api.Tuple, L: make([]api.Term, n)}, want)
	}
	for n := range 5 {
		may(t, "a Cons", api.Term{Kind: api.Cons, L: make([]api.Term, n)}, n == 2)
		may(t, "a Cons in a list", api.Term{Kind: api.Cons, L: []api.Term{{}, {Kind: api.Cons, L: make([]api.Term, n)}}}, n == 2)
	}
	may(t, "a Cons whose tail is no list", api.Term{Kind: api.Cons, L: []api.Term{{}, {}}}, true)
	for n, want := range map[int]bool{0: true, 1: true, api.MaxBin: true, api.MaxBin + 1: false, 1 << 20: false} {
		may(t, "a Bin", api.Term{Kind: api.Bin, B: make([]byte, n)}, want)
	}
}

// P5.1: each part may be, wherever it lies.
func TestMayOfParts(t *testing.T) {
	wrong := api.Term{Kind: api.Atom, Name: "\xff"}
	right := api.Term{Kind: api.Atom, Name: "a"}
	for n := range 6 {
		l := []api.Term{right, right, right, right, right, right}
		may(t, "right parts", api.Term{Kind: api.Tuple, L: l}, true)
		l[n] = wrong
		may(t, "a wrong part", api.Term{Kind: api.Tuple, L: l}, false)
	}
	for _, deep := range []int{1, 2, 300, 60000} {
		may(t, "a right part within", nested(deep, right), true)
		may(t, "a wrong part within", nested(deep, wrong), false)
	}
	may(t, "a wrong head", api.Term{Kind: api.Cons, L: []api.Term{wrong, right}}, false)
	may(t, "a wrong tail", api.Term{Kind: api.Cons, L: []api.Term{right, wrong}}, false)
	may(t, "a wrong end", chain(1000, wrong), false)
	may(t, "a wrong part behind a deep one", api.Term{Kind: api.Tuple, L: []api.Term{nested(100, right), wrong}}, false)
}

// P5.1: Tree, small and great; at MaxTree a term may be, one part more and it may not; wide ones and deep ones.
func TestTree(t *testing.T) {
	for _, k := range kinds() {
		want := 1
		if k == api.Tuple || k == api.Cons {
			want = 3
		}
		if got := Tree(plain(k)); got != want {
			t.Errorf("Tree of kind %d is %d, want %d", k, got, want)
		}
	}
	const just = api.MaxTree
	cases := []struct {
		what string
		x    api.Term
		want int
	}{
		{"a Tuple of none", api.Term{Kind: api.Tuple}, 1},
		{"a Tuple of 255", api.Term{Kind: api.Tuple, L: make([]api.Term, 255)}, 256},
		{"rows", rows(255), 1 + 255*256},
		{"deep, one below", nested(just-2, Nil()), just - 1},
		{"deep, just", nested(just-1, Nil()), just},
		{"deep, one more", nested(just, Nil()), just + 1},
		{"deep, far more", nested(2*just, Nil()), just + 1},
		{"a list, one below", chain(just/2-1, Nil()), just - 1},
		{"a list in a Tuple, just", nested(1, chain(just/2-1, Nil())), just},
		{"a list, one more", chain(just/2, Nil()), just + 1},
		{"heads, one below", leaning(just/2 - 1), just - 1},
		{"heads, just", nested(1, leaning(just/2-1)), just},
		{"heads, one more", leaning(just / 2), just + 1},
		{"both, just", Tuple(rows(200), chain(7166, Nil()), Nil()), just},
		{"both, one more", Tuple(rows(200), chain(7166, Nil()), Nil(), Nil()), just + 1},
		{"wide, just", Tuple(rows(255), api.Term{Kind: api.Tuple, L: make([]api.Term, 253)}), just},
		{"wide, one more", Tuple(rows(255), api.Term{Kind: api.Tuple, L: make([]api.Term, 254)}), just + 1},
	}
	for _, c := range cases {
		if got := Tree(c.x); got != c.want {
			t.Errorf("Tree of %s is %d, want %d", c.what, got, c.want)
		}
		may(t, c.what, c.x, c.want <= just)
	}
}

// P5.1, R1: a term that is far more than memory holds, since its parts share theirs, or that lies within itself: MaxTree + 1, and it may not be.
func TestTreeOfSharedParts(t *testing.T) {
	x := Nil()
	for range 200 {
		x = api.Term{Kind: api.Tuple, L: []api.Term{x, x}}
	}
	for kind, n := range map[int]int{api.Tuple: 1, api.Cons: 2} {
		l := make([]api.Term, n)
		for i := range l {
			l[i] = api.Term{Kind: kind, L: l}
		}
		for _, y := range []api.Term{x, l[0], nested(3, l[0])} {
			if Tree(y) != api.MaxTree+1 || May(y) {
				t.Errorf("Tree %d, May %v", Tree(y), May(y))
			}
		}
	}
	wide := api.Term{Kind: api.Tuple, L: make([]api.Term, 1<<20)}
	if Tree(wide) != api.MaxTree+1 || May(wide) {
		t.Error("a Tuple of 2^20")
	}
}

// Behind R7: Tree of a term that may not be: unused fields do not count, a kind that is none is Nil, a Cons has the items that it has.
func TestTreeOfWrongTerms(t *testing.T) {
	for _, k := range append(none(), api.Int, api.Atom, api.Ref, api.Pid, api.Nil, api.Bin) {
		if got := Tree(api.Term{Kind: k, L: make([]api.Term, 5)}); got != 1 {
			t.Errorf("Tree of kind %d with a list is %d", k, got)
		}
	}
	for n := range 5 {
		if got := Tree(api.Term{Kind: api.Cons, L: make([]api.Term, n)}); got != n+1 {
			t.Errorf("Tree of a Cons of %d is %d", n, got)
		}
	}
	if got := Tree(api.Term{Kind: api.Tuple, L: make([]api.Term, 300)}); got != 301 {
		t.Errorf("Tree of a Tuple of 300 is %d", got)
	}
}

// P5.2: the makers, each of its kind, with no field that it does not use. Nothing is refused (R6).
func TestMakers(t *testing.T) {
	long := strings.Repeat("é", api.MaxAtom+1)
	one := api.Term{D: []uint32{1}}
	cases := []struct {
		what      string
		got, want api.Term
	}{
		{"Int 0", Int(0), api.Term{}},
		{"Int 1", Int(1), one},
		{"Int -1", Int(-1), api.Term{Neg: true, D: []uint32{1}}},
		{"Int 2^32", Int(1 << 32), api.Term{D: []uint32{0, 1}}},
		{"Int least", Int(math.MinInt64), api.Term{Neg: true, D: []uint32{0, 1 << 31}}},
		{"Int greatest", Int(math.MaxInt64), api.Term{D: []uint32{1<<32 - 1, 1<<31 - 1}}},
		{"Num", Num(big.Num{Neg: true, D: []uint32{5, 6}}), api.Term{Neg: true, D: []uint32{5, 6}}},
		{"Num with noughts", Num(big.Num{Neg: true, D: []uint32{0, 5, 0, 0}}), api.Term{Neg: true, D: []uint32{0, 5}}},
		{"Num 0", Num(big.Num{}), api.Term{}},
		{"Num -0", Num(big.Num{Neg: true, D: []uint32{0, 0}}), api.Term{}},
		{"Num too long", Num(big.Num{D: limbs(200)}), api.Term{D: limbs(200)}},
		{"Atom", Atom("ab"), api.Term{Kind: api.Atom, Name: "ab"}},
		{"Atom without signs", Atom(""), api.Term{Kind: api.Atom}},
		{"Atom too long", Atom(long), api.Term{Kind: api.Atom, Name: long}},
		{"Atom wrong", Atom("\xff"), api.Term{Kind: api.Atom, Name: "\xff"}},
		{"Pid", Pid(7), api.Term{Kind: api.Pid, N: 7}},
		{"Pid wrong", Pid(math.MinInt), api.Term{Kind: api.Pid, N: math.MinInt}},
		{"Ref", Ref(7), api.Term{Kind: api.Ref, N: 7}},
		{"Ref wrong", Ref(1<<30 + 1), api.Term{Kind: api.Ref, N: 1<<30 + 1}},
		{"Nil", Nil(), api.Term{Kind: api.Nil}},
		{"Cons", Cons(one, Pid(2)), api.Term{Kind: api.Cons, L: []api.Term{one, Pid(2)}}},
		{"Tuple", Tuple(one, Tuple(Nil())), api.Term{Kind: api.Tuple, L: []api.Term{one, {Kind: api.Tuple, L: []api.Term{Nil()}}}}},
		{"Tuple of none", Tuple(), api.Term{Kind: api.Tuple}},
		{"Tuple of an empty list", Tuple([]api.Term{}...), api.Term{Kind: api.Tuple}},
		{"List", List(one, Ref(2)), api.Term{Kind: api.Cons, L: []api.Term{one, {Kind: api.Cons, L: []api.Term{Ref(2), Nil()}}}}},
		{"List of none", List(), Nil()},
		{"List of an empty list", List([]api.Term{}...), Nil()},
		{"Bin", Bin([]byte{0, 255}), api.Term{Kind: api.Bin, B: []byte{0, 255}}},
		{"Bin of none", Bin(nil), api.Term{Kind: api.Bin}},
		{"Bin of an empty list", Bin([]byte{}), api.Term{Kind: api.Bin}},
		{"Bin too long", Bin(make([]byte, api.MaxBin+1)), api.Term{Kind: api.Bin, B: make([]byte, api.MaxBin+1)}},
	}
	for _, c := range cases {
		if !reflect.DeepEqual(c.got, c.want) {
			t.Errorf("%s: %+v, want %+v", c.what, c.got, c.want)
		}
	}
	if got := Tuple(make([]api.Term, 300)...); len(got.L) != 300 || May(got) {
		t.Error("a Tuple of 300 is not made")
	}
}

// P5.2: what is made of terms that may be, within the limits, may be.
func TestMadeTermsMayBe(t *testing.T) {
	all := []api.Term{Int(0), Int(-5), Num(big.Num{D: limbs(64)}), Atom("x"), Pid(0), Ref(1), Nil(), Bin([]byte{1})}
	for _, x := range append(all, Cons(all[0], all[1]), Tuple(all...), List(all...), Tuple(List(all...), Tuple())) {
		may(t, "a made one", x, true)
	}
}

// P5.2: Of is an Int's number, as its Norm; false, and 0, of all others.
func TestOf(t *testing.T) {
	cases := []struct {
		x    api.Term
		want big.Num
	}{
		{Int(0), big.Num{}},
		{Int(-7), big.Num{Neg: true, D: []uint32{7}}},
		{Num(big.Num{D: limbs(100)}), big.Num{D: limbs(100)}},
		{api.Term{Neg: true}, big.Num{}},
		{api.Term{Neg: true, D: []uint32{0, 0}}, big.Num{}},
		{api.Term{Neg: true, D: []uint32{5, 0}}, big.Num{Neg: true, D: []uint32{5}}},
		{api.Term{D: []uint32{5}, Name: "x", N: 2, B: []byte{1}, L: []api.Term{{}}}, big.Num{D: []uint32{5}}},
	}
	for _, c := range cases {
		if got, ok := Of(c.x); !ok || !reflect.DeepEqual(got, c.want) {
			t.Errorf("Of(%+v) is %v, %v, want %v", c.x, got, ok, c.want)
		}
	}
	for _, k := range append(none(), kinds()[1:]...) {
		x := plain(k)
		x.Neg, x.D = true, []uint32{5}
		if got, ok := Of(x); ok || !reflect.DeepEqual(got, big.Num{}) {
			t.Errorf("Of kind %d is %v, %v", k, got, ok)
		}
	}
}

// P5.2: Items of lists, and of what is none.
func TestItems(t *testing.T) {
	for n := range 6 {
		var l []api.Term
		for i := range n {
			l = append(l, Tuple(Int(int64(i)), List(Atom("a"))))
		}
		got, ok := Items(List(l...))
		if !ok || len(got) != n || n > 0 && !reflect.DeepEqual(got, l) {
			t.Errorf("Items of %d: %v, %v", n, got, ok)
		}
	}
	if got, ok := Items(chain(30000, Nil())); !ok || len(got) != 30000 {
		t.Errorf("a long list: %d, %v", len(got), ok)
	}
	for _, k := range kinds() {
		if k == api.Nil || k == api.Cons {
			continue
		}
		for _, x := range []api.Term{plain(k), Cons(Int(1), plain(k)), chain(1000, plain(k))} {
			if got, ok := Items(x); ok || len(got) != 0 {
				t.Errorf("Items at kind %d: %d, %v", k, len(got), ok)
			}
		}
	}
}

// P5.2, behind R7: Items of terms that may not be. A Cons without just a head and a tail is no list; a kind that is none is Nil; unused fields do not count.
func TestItemsOfWrongTerms(t *testing.T) {
	for _, n := range []int{0, 1, 3, 4} {
		wrong := api.Term{Kind: api.Cons, L: make([]api.Term, n)}
		for i := range wrong.L {
			wrong.L[i].Kind = api.Nil
		}
		for _, x := range []api.Term{wrong, {Kind: api.Cons, L: []api.Term{{}, wrong}}} {
			if got, ok := Items(x); ok || len(got) != 0 {
				t.Errorf("a Cons of %d: %v, %v", n, got, ok)
			}
		}
	}
	for _, k := range none() {
		if got, ok := Items(api.Term{Kind: k, L: make([]api.Term, 2)}); !ok || len(got) != 0 {
			t.Errorf("kind %d: %v, %v", k, got, ok)
		}
		got, ok := Items(api.Term{Kind: api.Cons, L: []api.Term{{Kind: api.Pid, N: 1}, {Kind: k}}})
		if !ok || !reflect.DeepEqual(got, []api.Term{Pid(1)}) {
			t.Errorf("kind %d at the end: %v, %v", k, got, ok)
		}
	}
	wrong := api.Term{Kind: api.Nil, Name: "x", L: []api.Term{Int(1), Nil()}}
	if got, ok := Items(wrong); !ok || len(got) != 0 {
		t.Errorf("Nil with a list: %v, %v", got, ok)
	}
	if got, ok := Items(api.Term{Kind: api.Tuple, L: []api.Term{Int(1), Nil()}}); ok || len(got) != 0 {
		t.Errorf("a Tuple of two: %v, %v", got, ok)
	}
}

// P5.3: an Int that is just Small takes no words, the next one 1 and its limbs.
func TestWordsOfInts(t *testing.T) {
	for n, want := range map[int64]int{0: 0, 1: 0, -1: 0, 1 << 32: 0, 1<<59 - 1: 0, 1 << 59: 3, -1 << 59: 0, -1<<59 - 1: 3, math.MaxInt64: 3, math.MinInt64: 3} {
		if got := Words(Int(n)); got != want {
			t.Errorf("Words of %d is %d, want %d", n, got, want)
		}
	}
	for n := 3; n < 200; n++ {
		for _, neg := range []bool{false, true} {
			if got := Words(Num(big.Num{Neg: neg, D: limbs(n)})); got != n+1 {
				t.Errorf("Words of %d limbs is %d", n, got)
			}
		}
	}
	// Noughts at the end are none of a number's limbs.
	for want, x := range map[int]api.Term{0: {Neg: true, D: []uint32{5, 0, 0, 0}}, 3: {D: []uint32{0, 1 << 27, 0, 0}}, 4: {D: []uint32{0, 0, 1, 0}}} {
		if got := Words(x); got != want {
			t.Errorf("Words of %v is %d, want %d", x.D, got, want)
		}
	}
}

// P5.3: Words of each other kind, alone and within others.
func TestWords(t *testing.T) {
	large := Num(big.Num{D: limbs(5)})
	cases := []struct {
		what string
		x    api.Term
		want int
	}{
		{"Atom", Atom("abc"), 0},
		{"Pid", Pid(1 << 30), 0},
		{"Ref", Ref(5), 0},
		{"Nil", Nil(), 0},
		{"Cons", Cons(Int(1), Int(2)), 3},
		{"Cons of great ones", Cons(large, large), 15},
		{"List", List(Int(1), Int(2), Int(3)), 9},
		{"a list without Nil", chain(10, large), 36},
		{"Tuple of none", Tuple(), 1},
		{"Tuple of three", Tuple(Nil(), Nil(), Nil()), 4},
		{"Tuple of others", Tuple(large, Tuple(), Bin(nil), List(Nil())), 5 + 6 + 1 + 4 + 3},
		{"Tuple of 255", Tuple(make([]api.Term, 255)...), 256},
		{"Bin of none", Bin(nil), 4},
		{"Bin of many", Bin(make([]byte, 4096)), 4},
		{"deep", nested(65535, Nil()), 2 * 65535},
		{"long", chain(32767, Nil()), 3 * 32767},
		{"above MaxTree", nested(70000, Bin(nil)), 2*70000 + 4},
		{"rows", rows(255), 256 + 255*256},
		{"too wide a Tuple", api.Term{Kind: api.Tuple, L: make([]api.Term, 300)}, 301},
		{"too long a Bin", api.Term{Kind: api.Bin, B: make([]byte, 5000)}, 4},
		{"a Cons of one", api.Term{Kind: api.Cons, L: []api.Term{large}}, 9},
		{"a Cons of three", api.Term{Kind: api.Cons, L: []api.Term{large, Nil(), large}}, 15},
		{"an Atom with the fields of others", api.Term{Kind: api.Atom, D: limbs(9), L: []api.Term{large}, B: []byte{1}}, 0},
		{"an Int with the fields of others", api.Term{L: []api.Term{large}, B: []byte{1}}, 0},
		{"a Bin with the fields of others", api.Term{Kind: api.Bin, D: limbs(9), L: []api.Term{large}}, 4},
	}
	for _, c := range cases {
		if got := Words(c.x); got != c.want {
			t.Errorf("Words of %s is %d, want %d", c.what, got, c.want)
		}
	}
	for _, k := range none() {
		if got := Words(api.Term{Kind: k, D: limbs(9), L: []api.Term{large}, B: []byte{1}}); got != 0 {
			t.Errorf("Words of kind %d is %d", k, got)
		}
	}
}
