package order

import (
	"bytes"
	"encoding/binary"
	mathbig "math/big"
	"math/rand/v2"
	"reflect"
	"slices"
	"strings"
	"testing"
	"unsafe"

	"tenement/api"
	"tenement/term"
)

// drawn is a term of chance, from so few that equal ones and such as part late are not rare; some of them may not be.
func drawn(draw *rand.Rand, deep int) api.Term {
	kind := draw.IntN(8)
	if deep > 0 && draw.IntN(2) == 0 {
		kind = []int{api.Tuple, api.Cons}[draw.IntN(2)]
	}
	if deep == 0 && (kind == api.Tuple || kind == api.Cons) {
		kind = api.Nil
	}
	t := api.Term{Kind: kind}
	switch kind {
	case api.Int:
		t.Neg = draw.IntN(2) == 0
		for range draw.IntN(4) {
			t.D = append(t.D, uint32(draw.IntN(3))*0x7fffffff)
		}
	case api.Atom:
		for range draw.IntN(4) {
			t.Name += []string{"a", "a", "a", "z", "z", "é", "é", "\uffff", "\U00010000", "\xff"}[draw.IntN(10)]
		}
	case api.Ref, api.Pid:
		t.N = draw.IntN(5) - 1
	case api.Tuple:
		for range draw.IntN(4) {
			t.L = append(t.L, drawn(draw, deep-1))
		}
	case api.Cons:
		for range []int{0, 1, 3, 2}[min(draw.IntN(40), 3)] {
			t.L = append(t.L, drawn(draw, deep-1))
		}
	case api.Bin:
		for range draw.IntN(4) {
			t.B = append(t.B, byte(draw.IntN(2)*255))
		}
	}
	switch draw.IntN(30) {
	case 0:
		t.Kind = draw.IntN(12) - 2
	case 1:
		t.N += 4
	}
	return t
}

// key is a term as bytes whose order is that of the terms: kind, then what the chapter says of it, each piece with its own end.
func key(out []byte, t api.Term) []byte {
	kind := t.Kind
	if kind < api.Int || kind > api.Bin {
		kind = api.Nil
	}
	out = append(out, byte(kind))
	switch kind {
	case api.Int:
		return numberKey(out, t)
	case api.Atom:
		return bytesKey(out, []byte(t.Name))
	case api.Ref, api.Pid:
		return binary.BigEndian.AppendUint64(out, uint64(t.N)^1<<63)
	case api.Tuple:
		out = binary.BigEndian.AppendUint64(out, uint64(len(t.L)))
		for _, x := range t.L {
			out = key(out, x)
		}
	case api.Cons:
		for _, x := range t.L {
			out = key(append(out, 1), x)
		}
		return append(out, 0)
	case api.Bin:
		return bytesKey(out, t.B)
	}
	return out
}

func bytesKey(out, b []byte) []byte {
	for _, x := range b {
		out = append(out, 1, x)
	}
	return append(out, 0)
}

// numberKey is a number moved so far up that it is not below 0, with a fixed count of bytes.
func numberKey(out []byte, t api.Term) []byte {
	n := new(mathbig.Int)
	for _, limb := range slices.Backward(t.D) {
		n.Lsh(n, 32)
		n.Add(n, mathbig.NewInt(int64(limb)))
	}
	if t.Neg {
		n.Neg(n)
	}
	const bits = 32 * 110
	n.Add(n, new(mathbig.Int).Lsh(mathbig.NewInt(1), bits))
	return append(out, n.FillBytes(make([]byte, bits/8+1))...)
}

// P6.1, P6.2: terms of chance, held against their keys.
func TestAgainstModel(t *testing.T) {
	draw := rand.New(rand.NewPCG(6, 6))
	equal := 0
	for range 20000 {
		deep := draw.IntN(4)
		a, b := drawn(draw, deep), drawn(draw, deep)
		if draw.IntN(2) == 0 {
			b = altered(draw, term.Copy(a))
		}
		want := bytes.Compare(key(nil, a), key(nil, b))
		if got := Compare(a, b); got != want || Compare(b, a) != -want {
			t.Fatalf("Compare(%+v, %+v) is %d, want %d", a, b, got, want)
		}
		if same := term.Same(a, b); same != (want == 0) {
			t.Fatalf("%+v and %+v: %d, Same %v", a, b, want, same)
		}
		if want == 0 {
			equal++
		}
	}
	if equal < 1000 || equal > 19000 {
		t.Errorf("%d of the pairs are equal", equal)
	}
	for range 300 {
		var l []api.Term
		for range draw.IntN(60) {
			l = append(l, drawn(draw, draw.IntN(3)))
		}
		sortedByKey(t, l)
	}
}

// altered is t with something else in one of its parts, or as it was.
func altered(draw *rand.Rand, t api.Term) api.Term {
	if draw.IntN(6) == 0 {
		return t
	}
	if len(t.L) == 0 || draw.IntN(6) == 0 {
		return drawn(draw, 1)
	}
	at := draw.IntN(len(t.L))
	t.L[at] = altered(draw, t.L[at])
	return t
}

// sortedByKey holds Sort and Max against the keys.
func sortedByKey(t *testing.T, l []api.Term) {
	t.Helper()
	byKey := func(a, b api.Term) int { return bytes.Compare(key(nil, a), key(nil, b)) }
	var want []api.Term
	for _, x := range l {
		want = append(want, term.Copy(x))
	}
	top := api.Term{}
	if len(want) > 0 {
		top = slices.MaxFunc(want, byKey)
	}
	slices.SortStableFunc(want, byKey)
	if got := Sort(l); !plainlyAll(got, want) {
		t.Fatalf("Sort(%+v) is %+v", l, got)
	}
	if got, ok := Max(l); ok != (len(l) > 0) || !plainly(got, top) {
		t.Fatalf("Max(%+v) is %+v", l, got)
	}
}

// varied are terms of all kinds, right ones and wrong ones, some of them equal.
func varied() []api.Term {
	all := []api.Term{
		nested(3000, term.Nil()), nested(3000, term.Tuple()), nested(2999, term.Nil()), chain(3000, term.Nil()), chain(3000, term.Int(1)), chain(2999, term.Nil()), leaning(3000, term.Nil()), leaning(3000, term.Int(1)),
		cons(), cons(term.Int(1)), cons(ints(1, 2, 3)...), tuple(make([]api.Term, 300)...), {Kind: -1}, {Kind: 8, N: 3}, {Neg: true}, {D: []uint32{5, 0}}, {Kind: api.Atom, Name: "\xff"}, {Kind: api.Atom, Name: "é\x80"}, {Kind: api.Pid, N: -5},
	}
	for _, group := range ofKinds() {
		all = append(all, group...)
	}
	for kind := range api.Bin + 1 {
		all = append(all, plain(kind))
		all = append(all, stuffed(plain(kind))...)
	}
	draw := rand.New(rand.NewPCG(3, 6))
	for range 80 {
		all = append(all, drawn(draw, 2))
	}
	return all
}

// P6.3: it is one order: the other way round it is the other way round; what is not above what is not above a third is not above that; 0 just of those that are the Same.
func TestOneOrder(t *testing.T) {
	all, others := varied(), varied()
	signs := make([][]int, len(all))
	for i, a := range all {
		for j, b := range others {
			c := Compare(a, b)
			signs[i] = append(signs[i], c)
			if c < -1 || c > 1 || (c == 0) != term.Same(a, b) {
				t.Fatalf("%d against %d is %d, Same %v", i, j, c, term.Same(a, b))
			}
		}
	}
	for i := range all {
		if signs[i][i] != 0 {
			t.Errorf("%d is not itself", i)
		}
		for j := range all {
			if signs[i][j] != -signs[j][i] {
				t.Errorf("%d against %d is %d, the other way round %d", i, j, signs[i][j], signs[j][i])
			}
			for k := range all {
				if signs[i][j] <= 0 && signs[j][k] <= 0 && (signs[i][k] > 0 || signs[i][k] == 0 && signs[i][j]+signs[j][k] != 0) {
					t.Fatalf("%d, %d, %d are in no order", i, j, k)
				}
			}
		}
	}
}

// R5: what is answered hangs on the arguments, not on what was asked ahead, nor on what was left half gone through.
func TestAnswersHangOnArguments(t *testing.T) {
	for range 3 {
		if Compare(tuple(tuple(term.Int(1), row(1)), row(2)), tuple(tuple(term.Int(2), row(3)), row(1))) != -1 || Compare(term.Nil(), term.Nil()) != 0 {
			t.Error("Compare hangs on the calls ahead of it")
		}
		l := []api.Term{tuple(ints(2, 9, 9)...), tuple(ints(1, 0, 0)...), tuple(ints(1, 0, 0)...), tuple(ints(2, 0, 0)...), tuple(ints(0, 5, 5)...)}
		want := []api.Term{l[4], l[1], l[2], l[3], l[0]}
		if !plainlyAll(Sort(l), want) {
			t.Errorf("Sort is %+v", Sort(l))
		}
		if got, _ := Max(l); !plainly(got, l[0]) {
			t.Errorf("Max is %+v", got)
		}
	}
}

// span is where a list lies in memory, spare room too.
type span struct {
	from, to uintptr
}

// spans adds those of all lists of a term, and of its names.
func spans(at []span, t api.Term) []span {
	at = add(at, t.D)
	at = add(at, t.B)
	at = add(at, unsafe.Slice(unsafe.StringData(t.Name), len(t.Name)))
	return spansOf(at, t.L)
}

func spansOf(at []span, l []api.Term) []span {
	at = add(at, l)
	for _, x := range l {
		at = spans(at, x)
	}
	return at
}

func add[T any](at []span, l []T) []span {
	if cap(l) == 0 {
		return at
	}
	from := uintptr(unsafe.Pointer(unsafe.SliceData(l)))
	return append(at, span{from, from + uintptr(cap(l))*unsafe.Sizeof(l[:1][0])})
}

// apart tells whether no two of these overlap.
func apart(at []span) bool {
	slices.SortFunc(at, func(a, b span) int { return int(a.from) - int(b.from) })
	for i := 1; i < len(at); i++ {
		if at[i].from < at[i-1].to {
			return false
		}
	}
	return true
}

// spacious is t with room behind each list, which holds what must stay.
func spacious(t api.Term) api.Term {
	t.D = append(slices.Clone(t.D), 11, 22, 33)[:len(t.D)]
	t.B = append(slices.Clone(t.B), 11, 22, 33)[:len(t.B)]
	t.Name = strings.Clone(t.Name)
	l := make([]api.Term, len(t.L), len(t.L)+2)
	for i, x := range t.L {
		l[i] = spacious(x)
	}
	t.L = append(l, term.Atom("spare"), term.Int(44))[:len(l)]
	return t
}

// picture is all that can be told of these terms, spare room too.
func picture(l []api.Term) []api.Term {
	all := slices.Clone(l[:cap(l)])
	for i, t := range all {
		all[i].D = slices.Clone(t.D[:cap(t.D)])
		all[i].B = slices.Clone(t.B[:cap(t.B)])
		all[i].L = picture(t.L)
	}
	return all
}

// handed are terms with spare room, of each kind, right ones and wrong ones, the greatest first.
func handed() []api.Term {
	var all []api.Term
	for kind := range api.Bin + 3 {
		all = append(all, plain(kind))
		all = append(all, stuffed(plain(kind))...)
	}
	all = append(all, term.List(term.Int(1), term.Tuple(term.Bin([]byte{1}), term.Atom("abc"))), term.Tuple(term.Tuple(term.Int(1<<40), term.List()), term.Cons(term.Pid(1), term.Ref(1))), marked(5, 3), cons(ints(1, 2, 3)...))
	for i := range all {
		all[i] = spacious(all[i])
	}
	slices.SortStableFunc(all, func(a, b api.Term) int { return Compare(b, a) })
	return append(all, term.Atom("spare"))[:len(all)]
}

// R4: what is handed in is not changed, spare room too; what is answered is new memory, and no two lists of it share any, also where those handed in do: the last two terms lie where others do.
func TestMemory(t *testing.T) {
	all := handed()
	for from := range all {
		l := append(slices.Clone(all[from:]), all[from], all[len(all)-1], term.Atom("spare"))
		l = l[:len(l)-1]
		was := picture(l)
		sorted := Sort(l)
		top, _ := Max(l)
		for _, x := range l {
			Compare(x, l[0])
			Compare(l[0], x)
		}
		if !reflect.DeepEqual(picture(l), was) {
			t.Fatal("what is handed in is changed")
		}
		given, answered := spansOf(nil, l[:len(l)-2]), spans(spansOf(nil, sorted), top)
		if !apart(slices.Clone(answered)) {
			t.Fatal("two lists of an answer share memory")
		}
		if !apart(append(given, answered...)) {
			t.Fatal("memory that was handed in is answered")
		}
	}
}

// R4: what was answered does not change with what was handed in, nor with a later call.
func TestNothingKept(t *testing.T) {
	l := handed()
	sorted := Sort(l)
	top, _ := Max(l)
	was, wasTop := picture(sorted), picture([]api.Term{top})
	for i := range l {
		clear(l[i].D[:cap(l[i].D)])
		clear(l[i].B[:cap(l[i].B)])
		clear(l[i].L[:cap(l[i].L)])
	}
	clear(l)
	Sort(handed()[3:])
	Max(handed()[3:])
	if !reflect.DeepEqual(picture(sorted), was) || !reflect.DeepEqual(picture([]api.Term{top}), wasTop) {
		t.Error("an answer changes")
	}
}
