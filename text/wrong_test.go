package text

import (
	"math"
	"strings"
	"testing"

	"tenement/api"
	"tenement/term"
)

// plain is a term of that kind that may be, with something in what it uses.
func plain(kind int) api.Term {
	switch kind {
	case api.Int:
		return api.Term{Neg: true, D: []uint32{7}}
	case api.Atom:
		return api.Term{Kind: kind, Name: "ab"}
	case api.Ref, api.Pid:
		return api.Term{Kind: kind, N: 3}
	case api.Tuple, api.Cons:
		return api.Term{Kind: kind, L: []api.Term{{D: []uint32{1}}, {Kind: api.Nil}}}
	case api.Bin:
		return api.Term{Kind: kind, B: []byte{1, 2}}
	}
	return api.Term{Kind: kind}
}

// stuffed are terms like t, each with something in a field that t has at zero.
func stuffed(t api.Term) []api.Term {
	var all []api.Term
	put := func(unset bool, fill func(x *api.Term)) {
		if unset {
			x := t
			fill(&x)
			all = append(all, x)
		}
	}
	put(!t.Neg, func(x *api.Term) { x.Neg = true })
	put(len(t.D) == 0, func(x *api.Term) { x.D = []uint32{1} })
	put(t.Name == "", func(x *api.Term) { x.Name = "x" })
	put(t.N == 0, func(x *api.Term) { x.N = 1 })
	put(len(t.L) == 0, func(x *api.Term) { x.L = []api.Term{{Kind: api.Nil}, {Kind: api.Nil}} })
	put(len(t.B) == 0, func(x *api.Term) { x.B = []byte{0} })
	return all
}

// mayNot are terms that may not be, of each of chapter 5's reasons.
func mayNot() []api.Term {
	var all []api.Term
	for kind := range api.Bin + 1 {
		for _, x := range stuffed(plain(kind)) {
			if kind != api.Int || !x.Neg || len(x.D) == 0 || x.Name+string(x.B) != "" || x.N != 0 || len(x.L) > 0 {
				all = append(all, x)
			}
		}
	}
	for _, kind := range []int{math.MinInt, -1, 8, 9, 1 << 40, math.MaxInt} {
		all = append(all, api.Term{Kind: kind})
	}
	for n := range 5 {
		if n != 2 {
			all = append(all, cons(make([]api.Term, n)...), cons(term.Int(1), cons(make([]api.Term, n)...)))
		}
	}
	for _, n := range []int{math.MinInt, -1, 1<<30 + 1, 1 << 32, math.MaxInt} {
		all = append(all, api.Term{Kind: api.Pid, N: n}, api.Term{Kind: api.Ref, N: n})
	}
	for _, name := range []string{"\xff", "a\x80", "\xed\xa0\x80", strings.Repeat("a", 256), strings.Repeat("é", 256)} {
		all = append(all, atom(name))
	}
	return append(all,
		api.Term{Neg: true}, api.Term{D: []uint32{0}}, api.Term{D: []uint32{5, 0}}, api.Term{Neg: true, D: []uint32{5, 0}}, api.Term{D: append(make([]uint32, 64), 1)},
		tuple(make([]api.Term, 256)...), api.Term{Kind: api.Bin, B: make([]byte, 4097)})
}

// P7.1: Print refuses a term that may not be, and one that has such a part, wherever it lies.
func TestPrintOfWrongTerms(t *testing.T) {
	a := atom("a")
	for _, x := range mayNot() {
		for _, y := range []api.Term{x, tuple(x), tuple(a, x), tuple(x, a), cons(x, a), cons(a, x), chain(term.Nil(), a, x, a), nested(100, x), leaning(100, x)} {
			unprinted(t, "a wrong term", y, api.ErrArg)
		}
	}
	for kind := range api.Bin + 1 {
		if _, e := Print(plain(kind)); e != api.OK {
			t.Errorf("kind %d is refused", kind)
		}
	}
}

// P7.1, R1: a term that lies within itself may not be, and Print ends.
func TestPrintOfEndlessTerms(t *testing.T) {
	for kind, n := range map[int]int{api.Tuple: 1, api.Cons: 2} {
		l := make([]api.Term, n)
		for i := range l {
			l[i] = api.Term{Kind: kind, L: l}
		}
		unprinted(t, "a term within itself", l[0], api.ErrArg)
	}
	x := term.Nil()
	for range 200 {
		x = tuple(x, x)
	}
	unprinted(t, "far too many parts", x, api.ErrArg)
}

// R4: nil and empty lists are one.
func TestPrintOfEmptyLists(t *testing.T) {
	for kind, want := range map[int]string{api.Int: "0", api.Atom: "''", api.Ref: "#0", api.Pid: "<0>", api.Tuple: "{}", api.Nil: "[]", api.Bin: "<<>>"} {
		x := api.Term{Kind: kind, D: []uint32{}, L: []api.Term{}, B: []byte{}}
		if s, e := Print(x); s != want || e != api.OK {
			t.Errorf("kind %d with empty lists: %s, %d", kind, s, e)
		}
	}
}

// refusedIn asks that s is refused alone and in other terms.
func refusedIn(t *testing.T, s string) {
	t.Helper()
	for _, x := range []string{s, "{" + s + "}", "[" + s + "]", "[a," + s + "]", "{" + s + ",a}", "[a|" + s + "]", "{[{" + s + "}]}"} {
		refused(t, x, api.ErrSyntax)
	}
}

// P7.1: numbers that are written otherwise: noughts ahead, a minus of nought, a plus, no digits, digits that are none.
func TestWrongNumbers(t *testing.T) {
	for _, n := range []string{"00", "01", "007", "0000000000000000000000000000001", "00" + strings.Repeat("0", 700)} {
		for _, s := range []string{n, "-" + n, "<" + n + ">", "#" + n, "<<" + n + ">>", "<<1," + n + ">>", "<<" + n + ",1>>"} {
			refusedIn(t, s)
		}
	}
	for _, s := range []string{"-0", "-", "--1", "-+1", "- 1", "+1", "-a", "-<1>", "-#1", "-[]", "\u0663", "-\u0663", "½", "−1", ".5"} {
		refusedIn(t, s)
	}
	for _, s := range []string{"1.5", "1e5", "0x10", "1_0", "0a", "1-", "12'A'", "1\u0663"} {
		for _, x := range []string{"{" + s + "}", "[" + s + "]", "<" + s + ">", "<<" + s + ">>", "<<1," + s + ">>"} {
			refused(t, x, api.ErrSyntax)
		}
	}
}

// P7.1: Pids and Refs that are written otherwise.
func TestWrongPidsAndRefs(t *testing.T) {
	for _, s := range []string{"<", "<>", "<1", "<-1>", "<+1>", "<a>", "< 1>", "<1 >", "<1,2>", "<1]", "<'1'>", "<<1>", "<[1]>", "<1<", "#", "#-1", "#+1", "#a", "# 1", "##1", "#<1>", "#'1'", "#\u0663", "<\u0663>"} {
		refusedIn(t, s)
	}
}

// P7.1: Bins that are written otherwise, bytes that are none.
func TestWrongBins(t *testing.T) {
	for _, s := range []string{"<<", "<<>", "<<1", "<<1>", "<<1,", "<<1,>>", "<<,>>", "<<,1>>", "<<1,,2>>", "<<1 >>", "<< 1>>", "<<1, 2>>", "<<1> >", "< <1>>", "<<-1>>", "<<256>>", "<<1,256>>", "<<999>>", "<<a>>", "<<'a'>>", "<<[]>>", "<<1|2>>", "<<1;2>>", "<<1]", "<<1,2>,3>>", "<<<1>>>", "<<<<1>>>>", "<<1 2>>", "<<\"a\">>"} {
		refusedIn(t, s)
	}
}

// P7.1: Tuples and lists that are written otherwise, or with signs at wrong places.
func TestWrongRows(t *testing.T) {
	for _, s := range []string{
		"{", "{a", "{a,", "{,}", "{a,}", "{,a}", "{a,,b}", "{a]", "{a)", "{a|b}", "{a,b|c}", "{|a}", "{a;b}", "{a b}", "{a'B'}", "{a{}}", "{[]a}", "{{}", "{a,{b}", "{a,[b}", "{a,[b}]",
		"[", "[a", "[a,", "[,]", "[a,]", "[,a]", "[a,,b]", "[a}", "[a)", "[a;b]", "[a b]", "[a'B']", "[a[]]", "[{}a]", "[[]", "[a,[b]", "[a,{b]", "[a,{b]}",
		"[|]", "[|a]", "[a|]", "[a|b", "[a|b,", "[a|b,c]", "[a|b|c]", "[a||b]", "[a,|b]", "[a|,b]", "[a|b}", "[a|b c]", "[a|b,]", "[a|b|]", "[a|{b]", "[a|{b}", "[a|[b|c]",
		")", ">", ">>", ",", "|", "(a)", ";", ":", ".", "*", "=", "\"a\"", "?", "!", "%", "&", "~", "`a`", "$a", "@a", "_a", "_",
	} {
		refusedIn(t, s)
	}
	refused(t, "]", api.ErrSyntax)
	refused(t, "}", api.ErrSyntax)
}

// P7.1: a list's end that is a list itself: there is another way to write it.
func TestListsAsEnds(t *testing.T) {
	for _, s := range []string{"[a|[]]", "[a|[b]]", "[a,b|[]]", "[a,b|[c]]", "[a|[b|c]]", "[a,b|[c,d|e]]", "[a|[[]]]", "[[]|[]]", "[[a]|[b]]", "[1|[{}]]", "[a|[b|[c]]]"} {
		refusedIn(t, s)
	}
}

// P7.1: names that are written otherwise: Plain ones in quotes, escapes that Quote would not write, escapes that are none, signs that need one.
func TestWrongNames(t *testing.T) {
	for _, s := range []string{
		"'a'", "'ab'", "'aB_9@'", "'" + strings.Repeat("a", 255) + "'", "'\\x61;'", "'\\x61;b'", "'a\\x62;'",
		`'\x41;'`, `'\x20;'`, `'\x27;'`, `'\x5c;'`, `'\xe9;'`, `'\x1f600;'`, `'\x80;'`, `'\x0041;'`, `'A\x42;'`,
		`'\xa;'`, `'\xA;'`, `'\x0a;'`, `'\x00;'`, `'\x01;'`, `'\x09;'`, `'\x001f;'`, `'\x00001f;'`, `'\x07f;'`,
		`'\x1F;'`, `'\x7F;'`, `'\xB;'`, `'\xD;'`, `'a\x1F;b'`, `'\x1f;\x1F;'`,
		`'\x;'`, `'\x1'`, `'\x1f'`, `'\xg;'`, `'\x-1;'`, `'\x 1;'`, `'\x0000001;'`, `'\x110000;'`, `'\xd800;'`, `'\xdfff;'`, `'\X1f;'`,
		`'\t'`, `'\r'`, `'\0'`, `'\a'`, `'\N'`, `'\"'`, `'\ '`, `'\é'`, `'\u0041'`, `'\\x41;`, `'\`, `'\'`, `'\\`, `'\'\'`, `'\x`, `'\x1`, `'\x1f;`,
		"'\n'", "'\x00'", "'\t'", "'A\x1f'", "'\x7f'", "'\r\n'",
		"'", "'A", "'a", "'é", "'It\\'s", "A", "Ab", "É", "é", "ß", "µ", "_", "_a", "@", "@a", "\u0430", "ａ", "\ufffd", "😀", "\ufeffa", "\x00", "\x7f", "\u0080",
	} {
		refused(t, s, api.ErrSyntax)
		refused(t, "{"+s+"}", api.ErrSyntax)
		refused(t, "[a|"+s+"]", api.ErrSyntax)
		refused(t, "[a,"+s+",b]", api.ErrSyntax)
	}
	for _, s := range []string{"{aé}", "[a-b]", "{a'b'}", "[a\n]", "{a.b}", "{a:b}", "{a\ufffd}", "[a/1]"} {
		refused(t, s, api.ErrSyntax)
	}
}

// P7.1: there are no blanks, of any sort, at any place but between quotes.
func TestBlanks(t *testing.T) {
	const s = "{ok,[-1,<3>|#4],<<1,2>>,{},[]}"
	x, e := Parse(s)
	if e != api.OK {
		t.Fatal(e)
	}
	for _, blank := range []string{" ", "\t", "\n", "\r", "\v", "\f", "\u00a0", "\u2003", "\ufeff", "\x00", "  "} {
		refused(t, blank, api.ErrSyntax)
		refused(t, blank+"[]", api.ErrSyntax)
		for at := range s {
			refused(t, s[:at]+blank+s[at:], api.ErrSyntax)
		}
		reads(t, s+blank, x, len(s))
		if _, e := Parse(s + blank); e != api.ErrSyntax {
			t.Errorf("Parse with %q behind is %d", blank, e)
		}
	}
	both(t, atom(" \u00a0 "), "' \u00a0 '")
}

// P7.1: texts that end too soon, at each place. A place within a sign is no end of a Valid text.
func TestTooSoon(t *testing.T) {
	for _, s := range []string{"{ok,[1,<3>|#4],<<1,2>>}", "[a,{},[],<<>>,{b},[[c]|-12]]", "<<1,22,255>>", "<1073741824>", `'It\'s \\ \n \x1f; \x7f; é€😀'`, `{'É',['\x0;'|'ß']}`, "[[[[{{{{<<0>>}}}}]]]]", "[<0>,<0>,#0|<1>]", "-1", "#1"} {
		if _, e := Parse(s); e != api.OK {
			t.Fatalf("%q is refused: %d", s, e)
		}
		signs := map[int]int{}
		for at := range s {
			signs[at]++
		}
		for cut := range len(s) {
			want := api.ErrForm
			if signs[cut] > 0 {
				want = api.ErrSyntax
			}
			refused(t, s[:cut], want)
		}
	}
}

// P7.1: no term stands in a text without a sign.
func TestNothing(t *testing.T) {
	refused(t, "", api.ErrSyntax)
}

// P7.1, R1: each text of one sign and of two, of all that are below 256 and some above.
func TestShortTexts(t *testing.T) {
	var signs []string
	for r := range rune(256) {
		signs = append(signs, string(r))
	}
	signs = append(signs, "€", "\u2028", "\ufffd", "😀", "\U0010ffff")
	for _, a := range signs {
		one := strings.Contains("0123456789abcdefghijklmnopqrstuvwxyz", a)
		if _, e := Parse(a); (e == api.OK) != one || e != api.OK && e != api.ErrSyntax {
			t.Errorf("Parse(%q) is %d", a, e)
		}
		for _, b := range signs {
			_, n, e := Read(a + b)
			if want := beginning(a + b); n != want || (e == api.OK) != (want > 0) || e != api.OK && e != api.ErrSyntax {
				t.Errorf("Read(%q) is %d, %d, want %d bytes", a+b, n, e, want)
			}
		}
	}
}
