package text

import (
	"slices"
	"strconv"
	"strings"
	"testing"

	"tenement/api"
	"tenement/big"
	"tenement/term"
)

// tuple and cons are made without the makers, on the items as they are: also such as may not be.
func tuple(l ...api.Term) api.Term { return api.Term{Kind: api.Tuple, L: l} }

func cons(l ...api.Term) api.Term { return api.Term{Kind: api.Cons, L: l} }

func atom(name string) api.Term { return api.Term{Kind: api.Atom, Name: name} }

// chain is a list of these items with that end.
func chain(end api.Term, items ...api.Term) api.Term {
	for _, x := range slices.Backward(items) {
		end = cons(x, end)
	}
	return end
}

// nested is x in that many Tuples, leaning x in that many lists, of one item each.
func nested(deep int, x api.Term) api.Term {
	for range deep {
		x = tuple(x)
	}
	return x
}

func leaning(deep int, x api.Term) api.Term {
	for range deep {
		x = cons(x, term.Nil())
	}
	return x
}

// around is s between that many opening and closing signs.
func around(deep int, open, s, end string) string {
	return strings.Repeat(open, deep) + s + strings.Repeat(end, deep)
}

// joined is n times s, with commas between.
func joined(n int, s string) string {
	return strings.TrimSuffix(strings.Repeat(s+",", n), ",")
}

// plainly holds terms against each other field by field, with nil and empty lists alike.
func plainly(a, b api.Term) bool {
	return a.Kind == b.Kind && a.Neg == b.Neg && a.Name == b.Name && a.N == b.N && slices.Equal(a.D, b.D) && slices.Equal(a.B, b.B) && slices.EqualFunc(a.L, b.L, plainly)
}

// short is s, cut where it is long, for telling.
func short(s string) string {
	if len(s) > 60 {
		return strconv.Quote(s[:30]) + ".." + strconv.Quote(s[len(s)-20:]) + " of " + strconv.Itoa(len(s))
	}
	return strconv.Quote(s)
}

// both asks that s is x's text, printed and read, alone and with something behind.
func both(t *testing.T, x api.Term, s string) {
	t.Helper()
	if got, e := Print(x); got != s || e != api.OK {
		t.Errorf("Print is %s, %d, want %s", short(got), e, short(s))
	}
	if got, e := Parse(s); e != api.OK || !plainly(got, x) {
		t.Errorf("Parse(%s) is %d, or another term", short(s), e)
	}
	reads(t, s, x, len(s))
	followers := []string{" ", ",", "]", "}", "|", ">", ";", "-", "'", "é", "\n", "[]", "{}", "<1>", "#1"}
	if len(s) > 1000 { // great ones take their time
		followers = followers[:1]
	}
	for _, behind := range followers {
		if len(s)+len(behind) > api.MaxText {
			continue
		}
		reads(t, s+behind, x, len(s))
		if got, e := Parse(s + behind); e != api.ErrSyntax || !plainly(got, api.Term{}) {
			t.Errorf("Parse(%s) is %d", short(s+behind), e)
		}
	}
}

// reads asks that x stands at the beginning of s, with that many bytes.
func reads(t *testing.T, s string, x api.Term, size int) {
	t.Helper()
	if got, n, e := Read(s); e != api.OK || n != size || !plainly(got, x) {
		t.Errorf("Read(%s) is %d bytes, error %d, or another term; want %d bytes", short(s), n, e, size)
	}
}

// refused asks that neither Read nor Parse takes s.
func refused(t *testing.T, s string, want api.Errno) {
	t.Helper()
	if got, n, e := Read(s); e != want || n != 0 || !plainly(got, api.Term{}) {
		t.Errorf("Read(%s) is %d, %d, want error %d and zero values", short(s), n, e, want)
	}
	if got, e := Parse(s); e != want || !plainly(got, api.Term{}) {
		t.Errorf("Parse(%s) is %d, want %d and a zero term", short(s), e, want)
	}
}

// unprinted asks that Print refuses x.
func unprinted(t *testing.T, what string, x api.Term, want api.Errno) {
	t.Helper()
	if s, e := Print(x); s != "" || e != want {
		t.Errorf("Print of %s is %s, %d, want %d", what, short(s), e, want)
	}
}

// The chapter's example.
func TestExample(t *testing.T) {
	x := term.Tuple(term.Atom("ok"), term.Cons(term.Int(1), term.Cons(term.Pid(3), term.Ref(4))), term.Bin([]byte{1, 2}))
	both(t, x, "{ok,[1,<3>|#4],<<1,2>>}")
}

// A text: Ints, of either sign, of no limb, of one and of many.
func TestInts(t *testing.T) {
	for n, s := range map[int64]string{0: "0", 1: "1", -1: "-1", 9: "9", 10: "10", -10: "-10", 100: "100", 4294967295: "4294967295", -4294967296: "-4294967296", 1<<59 - 1: "576460752303423487", -1 << 63: "-9223372036854775808"} {
		both(t, term.Int(n), s)
	}
	for limbs := 3; limbs <= api.MaxLimbs; limbs++ {
		d := make([]uint32, limbs)
		for i := range d {
			d[i] = uint32(i*limbs + 1)
		}
		a := big.Num{Neg: limbs%2 == 1, D: d}
		both(t, term.Num(a), big.Text(a))
	}
	both(t, api.Term{D: []uint32{0, 0, 1}}, "18446744073709551616")
	both(t, api.Term{Neg: true, D: []uint32{0, 0, 1}}, "-18446744073709551616")
	reads(t, "12a", term.Int(12), 2)
	reads(t, "1-2", term.Int(1), 1)
	reads(t, "-5-", term.Int(-5), 2)
	reads(t, "7.5", term.Int(7), 1)
	reads(t, "3\u0663", term.Int(3), 1)
}

// A text: Atoms, Plain ones as they are, others with quotes and escapes.
func TestAtoms(t *testing.T) {
	for name, s := range map[string]string{
		"a": "a", "ok": "ok", "aB_9@": "aB_9@", "zZ": "zZ",
		"": "''", "A": "'A'", "9": "'9'", "_a": "'_a'", "a b": "'a b'", "a-b": "'a-b'", "EXIT": "'EXIT'",
		"It's": `'It\'s'`, `\`: `'\\'`, `\'`: `'\\\''`, `a\nb`: `'a\\nb'`, "'": `'\''`, "\"": `'"'`,
		"\n": `'\n'`, "a\nb": `'a\nb'`, "\x00": `'\x0;'`, "\t": `'\x9;'`, "\x0b": `'\xb;'`, "\r": `'\xd;'`, "\x10": `'\x10;'`, "\x1f": `'\x1f;'`, "\x7f": `'\x7f;'`, "\x00;": `'\x0;;'`,
		"é": "'é'", "aé": "'aé'", "€": "'€'", "😀": "'😀'", "\u0080": "'\u0080'", "\ufffd": "'\ufffd'", "\U0010ffff": "'\U0010ffff'",
		"[]": "'[]'", "{a,b}": "'{a,b}'", "<1>": "'<1>'", "#1": "'#1'", "1": "'1'", ",": "','", "]": "']'",
	} {
		both(t, atom(name), s)
		both(t, chain(atom(name), atom(name), tuple(atom(name), atom(name))), "["+s+",{"+s+","+s+"}|"+s+"]")
	}
	reads(t, "aé", atom("a"), 1)
	reads(t, "ab'c'", atom("ab"), 2)
	reads(t, "aB", atom("aB"), 2)
	reads(t, "''''", atom(""), 2)
	reads(t, "'A'b", atom("A"), 3)
}

// A text: Pids and Refs.
func TestPidsAndRefs(t *testing.T) {
	for n, s := range map[int]string{0: "0", 1: "1", 9: "9", 10: "10", 255: "255", 256: "256", 1<<30 - 1: "1073741823", 1 << 30: "1073741824"} {
		both(t, term.Pid(n), "<"+s+">")
		both(t, term.Ref(n), "#"+s)
	}
	reads(t, "#1a", term.Ref(1), 2)
	reads(t, "#1>", term.Ref(1), 2)
	reads(t, "<1>2", term.Pid(1), 3)
	reads(t, "<1>>", term.Pid(1), 3)
}

// A text: Bins of no bytes, of one, of many, and each byte that there is.
func TestBins(t *testing.T) {
	both(t, term.Bin(nil), "<<>>")
	all := make([]byte, 256)
	var texts []string
	for i := range all {
		all[i] = byte(i)
		texts = append(texts, strconv.Itoa(i))
		both(t, term.Bin(all[i:i+1]), "<<"+texts[i]+">>")
	}
	both(t, term.Bin(all), "<<"+strings.Join(texts, ",")+">>")
	both(t, term.Bin([]byte{0, 0}), "<<0,0>>")
	both(t, term.Bin([]byte{255, 0, 10}), "<<255,0,10>>")
	both(t, term.Tuple(term.Bin(nil), term.Bin([]byte{7})), "{<<>>,<<7>>}")
	reads(t, "<<>>>>", term.Bin(nil), 4)
}

// A text: Tuples, the empty one, those in others.
func TestTuples(t *testing.T) {
	one := term.Int(1)
	both(t, term.Tuple(), "{}")
	both(t, tuple(one), "{1}")
	both(t, tuple(one, one), "{1,1}")
	both(t, tuple(term.Tuple(), term.Nil()), "{{},[]}")
	both(t, tuple(tuple(one), tuple(one, tuple())), "{{1},{1,{}}}")
	both(t, tuple(cons(one, one), cons(tuple(), tuple())), "{[1|1],[{}|{}]}")
	both(t, tuple(atom(","), atom("}")), "{',','}'}")
}

// A text: lists, the empty one, those whose end is not Nil, those in others.
func TestLists(t *testing.T) {
	a, b, c := atom("a"), atom("b"), atom("c")
	both(t, term.Nil(), "[]")
	both(t, term.List(a), "[a]")
	both(t, term.List(a, b, c), "[a,b,c]")
	both(t, cons(a, b), "[a|b]")
	both(t, chain(c, a, b), "[a,b|c]")
	both(t, term.List(term.Nil()), "[[]]")
	both(t, term.List(term.Nil(), term.Nil()), "[[],[]]")
	both(t, cons(term.List(a), b), "[[a]|b]")
	both(t, cons(cons(a, b), c), "[[a|b]|c]")
	both(t, cons(cons(a, b), cons(cons(b, c), a)), "[[a|b],[b|c]|a]")
	both(t, term.List(term.List(a), term.List(b, term.List(c))), "[[a],[b,[c]]]")
	for s, end := range map[string]api.Term{"1": term.Int(1), "-1": term.Int(-1), "b": b, "'|'": atom("|"), "<3>": term.Pid(3), "#4": term.Ref(4), "{}": tuple(), "{a}": tuple(a), "{[]}": tuple(term.Nil()), "<<>>": term.Bin(nil), "<<1>>": term.Bin([]byte{1})} {
		both(t, cons(a, end), "[a|"+s+"]")
		both(t, chain(end, a, b, end), "[a,b,"+s+"|"+s+"]")
	}
	reads(t, "[]]", term.Nil(), 2)
	reads(t, "[][]", term.Nil(), 2)
	reads(t, "[a]|b]", term.List(a), 3)
}

// A text: long ones and deep ones, of lists, of Tuples and of both.
func TestLongAndDeep(t *testing.T) {
	seven := []api.Term{term.Int(7)}
	for _, n := range []int{1, 2, 100, 20000, 32000} {
		items := slices.Repeat(seven, n)
		both(t, chain(term.Nil(), items...), "["+joined(n, "7")+"]")
		both(t, chain(atom("a"), items...), "["+joined(n, "7")+"|a]")
		both(t, nested(n, term.Int(7)), around(n, "{", "7", "}"))
		both(t, nested(n, tuple()), around(n, "{", "{}", "}"))
		both(t, leaning(n, term.Nil()), around(n, "[", "[]", "]"))
		both(t, leaning(n, term.Int(7)), around(n, "[", "7", "]"))
	}
	mixed, s := term.Nil(), "[]"
	for range 5000 {
		mixed, s = cons(tuple(mixed), seven[0]), "[{"+s+"}|7]"
	}
	both(t, mixed, s)
	mixed, s = atom("a"), "a"
	for range 5000 {
		mixed, s = tuple(seven[0], cons(seven[0], cons(mixed, term.Nil())), seven[0]), "{7,[7,"+s+"],7}"
	}
	both(t, mixed, s)
	// A Tuple as the end of a list, and so on: the end itself holds the depth.
	mixed, s = tuple(), "{}"
	for range 8000 {
		mixed, s = tuple(cons(seven[0], mixed)), "{[7|"+s+"]}"
	}
	both(t, mixed, s)
}
