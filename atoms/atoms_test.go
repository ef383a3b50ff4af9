package atoms

import (
	"math"
	"math/rand/v2"
	"slices"
	"strconv"
	"strings"
	"testing"
	"unsafe"

	"tenement/api"
)

// just is a name of MaxAtom signs, long one of a sign more.
func just(sign string) string { return strings.Repeat(sign, api.MaxAtom) }
func long(sign string) string { return just(sign) + sign }

// wrong are texts that are not well-formed: a lone byte, one cut short, one too long for its number, half of a pair, one past the last sign, and some that are too long besides.
func wrong() []string {
	return []string{"\xff", "\x80", "\xc3", "a\xe2\x82", "\xc0\xaf", "\xed\xa0\x80", "\xf4\x90\x80\x80", "é\xc3b", "\xff" + long("a"), long("a") + "\xff", long("\xff")}
}

// put puts the name and holds what is answered, and Len behind it, against what is wanted.
func put(t *testing.T, a *Table, name string, n int, e api.Errno, size int) {
	t.Helper()
	if gotN, gotE := a.Put(name); gotN != n || gotE != e {
		t.Errorf("Put(%q) is %d, %v, want %d, %v", name, gotN, gotE, n, e)
	}
	if a.Len() != size {
		t.Errorf("Len behind Put(%q) is %d, want %d", name, a.Len(), size)
	}
}

// holds holds Name and Find of a table against the names that it should have, in the row of their numbers.
func holds(t *testing.T, a *Table, names ...string) {
	t.Helper()
	if a.Len() != len(names) {
		t.Errorf("Len is %d, want %d", a.Len(), len(names))
	}
	for n, want := range names {
		if s, ok := a.Name(n); s != want || !ok {
			t.Errorf("Name(%d) is %q, %v, want %q", n, s, ok, want)
		}
		if got, ok := a.Find(want); got != n || !ok {
			t.Errorf("Find(%q) is %d, %v, want %d", want, got, ok, n)
		}
	}
	unnumbered(t, a, math.MinInt, -1, len(names), len(names)+1, math.MaxInt)
}

// unnumbered asks for numbers that no name has.
func unnumbered(t *testing.T, a *Table, numbers ...int) {
	t.Helper()
	for _, n := range numbers {
		if s, ok := a.Name(n); s != "" || ok {
			t.Errorf("Name(%d) is %q, %v", n, s, ok)
		}
	}
}

// unfound asks for names that are not there.
func unfound(t *testing.T, a *Table, names ...string) {
	t.Helper()
	for _, s := range names {
		if n, ok := a.Find(s); n != 0 || ok {
			t.Errorf("Find(%q) is %d, %v", s, n, ok)
		}
	}
}

// The chapter's examples.
func TestExamples(t *testing.T) {
	a := New()
	put(t, a, "a", 0, api.OK, 1)
	put(t, a, "b", 1, api.OK, 2)
	put(t, a, "a", 0, api.OK, 2)
	if s, ok := a.Name(1); s != "b" || !ok {
		t.Errorf("Name(1) is %q, %v", s, ok)
	}
}

// P4.1: a new table has nothing, not even at the number that the first name will have.
func TestNewIsEmpty(t *testing.T) {
	a := New()
	if a == nil {
		t.Fatal("New is nil")
	}
	holds(t, a)
	unfound(t, a, "", "a", "\xff", long("a"))
}

// P4.1: numbers from 0 on, each new name the next; a name that is put again has the one that it had; each sign counts.
func TestNumbers(t *testing.T) {
	names := []string{"b", "a", "", "aa", "A", "a ", " a", "é", "e\u0301", "€", "😀", "\x00", "\x00\x00", "\n", "'", `\`, "\ufffd", "\U0010ffff", just("a"), just("é"), just("😀"), just("a")[1:] + "b"}
	a := New()
	for n, s := range names {
		unfound(t, a, s)
		put(t, a, s, n, api.OK, n+1)
	}
	holds(t, a, names...)
	for n := range slices.Backward(names) {
		put(t, a, names[n], n, api.OK, len(names))
	}
	holds(t, a, names...)
	unfound(t, a, "c", "aaa", "AA", "E\u0301", "\x00\x00\x00", just("b"))
}

// P4.1: the empty name is a name, whether it comes first or not.
func TestEmptyName(t *testing.T) {
	a := New()
	put(t, a, "", 0, api.OK, 1)
	put(t, a, "", 0, api.OK, 1)
	put(t, a, "a", 1, api.OK, 2)
	holds(t, a, "", "a")
}

// P4.1: a name may have MaxAtom signs, not one more, however many bytes a sign takes.
func TestLongNames(t *testing.T) {
	a := New()
	var names []string
	for _, sign := range []string{"a", "é", "€", "😀", "\x00"} {
		put(t, a, long(sign), 0, api.ErrLong, len(names))
		put(t, a, just(sign), len(names), api.OK, len(names)+1)
		names = append(names, just(sign))
		put(t, a, long(sign), 0, api.ErrLong, len(names))
		put(t, a, just(sign)+just(sign), 0, api.ErrLong, len(names))
		unfound(t, a, long(sign), just(sign)+just(sign))
	}
	put(t, a, strings.Repeat("a", 1<<20), 0, api.ErrLong, len(names))
	holds(t, a, names...)
}

// P4.1, R6: a text that is not Valid is ErrForm, even if it is too long. R2, R3: what is refused is not there, and takes no number.
func TestWrongNames(t *testing.T) {
	a := New()
	for _, s := range wrong() {
		put(t, a, s, 0, api.ErrForm, 0)
	}
	put(t, a, "a", 0, api.OK, 1)
	for _, s := range wrong() {
		put(t, a, s, 0, api.ErrForm, 1)
		put(t, a, s, 0, api.ErrForm, 1)
	}
	put(t, a, long("a"), 0, api.ErrLong, 1)
	put(t, a, "b", 1, api.OK, 2)
	holds(t, a, "a", "b")
	unfound(t, a, wrong()...)
	unfound(t, a, long("a"))
}

// P4.1: MaxAtoms names have room; behind them a new one is ErrLimit, one that is there has its number, and one that may not be is ErrForm or ErrLong all the same.
func TestFullTable(t *testing.T) {
	a := New()
	name := func(n int) string { return "n" + strconv.Itoa(n) }
	for n := range api.MaxAtoms {
		if got, e := a.Put(name(n)); got != n || e != api.OK {
			t.Fatalf("Put(%q) is %d, %v", name(n), got, e)
		}
	}
	last := api.MaxAtoms - 1
	for range 2 {
		put(t, a, name(api.MaxAtoms), 0, api.ErrLimit, api.MaxAtoms)
		put(t, a, "", 0, api.ErrLimit, api.MaxAtoms)
		put(t, a, just("é"), 0, api.ErrLimit, api.MaxAtoms)
		put(t, a, long("é"), 0, api.ErrLong, api.MaxAtoms)
		put(t, a, long("é")+"\xff", 0, api.ErrForm, api.MaxAtoms)
		put(t, a, "\xff", 0, api.ErrForm, api.MaxAtoms)
		for _, n := range []int{0, 1, last / 2, last} {
			put(t, a, name(n), n, api.OK, api.MaxAtoms)
		}
	}
	unfound(t, a, name(api.MaxAtoms), "", just("é"), long("é"), "\xff")
	unnumbered(t, a, -1, api.MaxAtoms, api.MaxAtoms+1)
	for n := range api.MaxAtoms {
		s, there := a.Name(n)
		got, ok := a.Find(name(n))
		if s != name(n) || !there || got != n || !ok {
			t.Fatalf("Name(%d) is %q, %v, Find(%q) is %d, %v", n, s, there, name(n), got, ok)
		}
	}
	b := New()
	put(t, b, "b", 0, api.OK, 1) // another table is not full
}

// R5: two tables do not know of each other.
func TestTwoTables(t *testing.T) {
	a, b := New(), New()
	put(t, a, "a", 0, api.OK, 1)
	put(t, a, "b", 1, api.OK, 2)
	holds(t, b)
	unfound(t, b, "a", "b")
	put(t, b, "b", 0, api.OK, 1)
	put(t, b, "c", 1, api.OK, 2)
	put(t, b, "a", 2, api.OK, 3)
	unfound(t, a, "c")
	holds(t, a, "a", "b")
	holds(t, b, "b", "c", "a")
}

// R7: a nil table answers zero values, and ErrArg ahead of every other error.
func TestNilTable(t *testing.T) {
	var a *Table
	for _, s := range []string{"", "a", "\xff", long("a")} {
		put(t, a, s, 0, api.ErrArg, 0)
		unfound(t, a, s)
	}
	unnumbered(t, a, -1, 0, 1)
}

// R1: a Table that New did not make has no names, and takes them.
func TestZeroTable(t *testing.T) {
	a := new(Table)
	holds(t, a)
	unfound(t, a, "a")
	put(t, a, "a", 0, api.OK, 1)
	put(t, a, "b", 1, api.OK, 2)
	holds(t, a, "a", "b")
}

// A text that is handed in is not kept: a name of a few signs must not hold the great text that it was cut from.
func TestTextsAreNotKept(t *testing.T) {
	whole := strings.Repeat("abc", 1000)
	piece := whole[1:4]
	a := New()
	a.Put(piece)
	kept, _ := a.Name(0)
	if kept != piece || unsafe.StringData(kept) == unsafe.StringData(piece) {
		t.Errorf("%q is kept as it was handed in", kept)
	}
}

// model is a table as plainly as it can be told: the names in a row.
type model []string

func (m *model) put(name string) (int, api.Errno) {
	if strings.ToValidUTF8(name, "") != name {
		return 0, api.ErrForm
	}
	if len([]rune(name)) > api.MaxAtom {
		return 0, api.ErrLong
	}
	if n := slices.Index(*m, name); n >= 0 {
		return n, api.OK
	}
	*m = append(*m, name)
	return len(*m) - 1, api.OK
}

// P4.1: many puts of names that often come again, held against the model.
func TestAgainstModel(t *testing.T) {
	pieces := []string{"a", "b", "é", "\xff", "", "'", just("€"), just("z")[1:]}
	for seed := range uint64(40) {
		draw := rand.New(rand.NewPCG(seed, 4))
		a, m := New(), model{}
		for range 200 {
			name := ""
			for range draw.IntN(4) {
				name += pieces[draw.IntN(len(pieces))]
			}
			before := slices.Index(m, name)
			if n, ok := a.Find(name); ok != (before >= 0) || n != max(before, 0) {
				t.Fatalf("seed %d: Find(%q) is %d, %v, want %d", seed, name, n, ok, before)
			}
			n, e := m.put(name)
			put(t, a, name, n, e, len(m))
		}
		holds(t, a, m...)
	}
}
