package text

import (
	"runtime"
	"slices"
	"strings"
	"testing"

	"tenement/api"
	"tenement/big"
	"tenement/term"
)

// written is a term with its text.
type written struct {
	x api.Term
	s string
}

// ones is a list of ones, but for the first, whose text has that many bytes, 5 or more, with that end. (With ones alone it would have as many parts as bytes.)
func ones(size int, end written) written {
	one := term.Int(1)
	first, text := term.Int(100), "100"
	size -= len(end.s)
	if size%2 == 0 {
		first, text = term.Int(10), "10"
	}
	more := (size - 2 - len(text)) / 2
	return written{cons(first, chain(end.x, slices.Repeat([]api.Term{one}, more)...)), "[" + text + strings.Repeat(",1", more) + end.s + "]"}
}

// filled is a Tuple of n times that term, with as many ones behind it as make its text that long.
func filled(size, n int, w written) written {
	rest := ones(size-2-n*(len(w.s)+1), written{x: term.Nil()})
	return written{tuple(append(slices.Repeat([]api.Term{w.x}, n), rest.x)...), "{" + strings.Repeat(w.s+",", n) + rest.s + "}"}
}

// deep is what has that many bytes by its depth alone, or nearly.
func deep(size int, tuples bool) written {
	core, text := term.Int(-10), "-10"
	if size%2 == 0 {
		core, text = term.Int(-1), "-1"
	}
	n := (size - len(text)) / 2
	if tuples {
		return written{nested(n, core), around(n, "{", text, "}")}
	}
	return written{leaning(n, core), around(n, "[", text, "]")}
}

// sized are terms of many forms whose texts have that many bytes.
func sized(size int) []written {
	wide := strings.Repeat("é", 200)
	hidden := strings.Repeat("\x1f", api.MaxAtom)
	bytes := slices.Repeat([]byte{255}, api.MaxBin)
	return []written{
		ones(size, written{x: term.Nil()}),
		ones(size, written{atom("a"), "|a"}),
		deep(size, true),
		deep(size, false),
		filled(size, 160, written{atom(wide), "'" + wide + "'"}),
		filled(size, 50, written{atom(hidden), "'" + strings.Repeat(`\x1f;`, api.MaxAtom) + "'"}),
		filled(size, 3, written{term.Bin(bytes), "<<" + joined(api.MaxBin, "255") + ">>"}),
		filled(size, 250, written{term.Pid(1 << 30), "<1073741824>"}),
	}
}

// P7.1: texts of just MaxText bytes are printed and read, one byte more is ErrLong; bytes count, not signs.
func TestMaxText(t *testing.T) {
	for _, size := range []int{api.MaxText - 1, api.MaxText, api.MaxText + 1} {
		for i, w := range sized(size) {
			if len(w.s) != size || !term.May(w.x) {
				t.Fatalf("form %d has %d bytes, want %d", i, len(w.s), size)
			}
			if size <= api.MaxText {
				both(t, w.x, w.s)
				continue
			}
			unprinted(t, short(w.s), w.x, api.ErrLong)
			refused(t, w.s, api.ErrLong)
		}
	}
}

// P7.1: what stands behind a term counts among the bytes too.
func TestMaxTextBehind(t *testing.T) {
	for _, behind := range []string{" ", "a", "]", "[", "é"} {
		n := (api.MaxText - 3) / len(behind)
		s := "[1]" + strings.Repeat(behind, n)
		reads(t, s, term.List(term.Int(1)), 3)
		refused(t, s+strings.Repeat(behind, 2), api.ErrLong)
	}
	for _, s := range []string{" ", "a", "[", "{", "<", `'\`, "0", "-", "é", "\x00"} {
		n := api.MaxText / len(s)
		refused(t, strings.Repeat(s, n), api.ErrSyntax)
		refused(t, strings.Repeat(s, n+1), api.ErrLong)
		refused(t, strings.Repeat(s, 10*api.MaxText), api.ErrLong)
	}
}

// P7.1: ErrLong is told ahead of ErrForm, ErrForm ahead of ErrSyntax, wherever the wrong bytes stand.
func TestOrderOfErrors(t *testing.T) {
	for _, wrong := range []string{"\xff", "\x80", "\xc3", "a\xe2\x82", "\xc0\xaf", "\xed\xa0\x80", "\xf4\x90\x80\x80"} {
		fill := strings.Repeat("a", api.MaxText-len(wrong))
		refused(t, wrong+fill, api.ErrForm)
		refused(t, fill+wrong, api.ErrForm)
		refused(t, wrong+fill+"a", api.ErrLong)
		refused(t, "a"+fill+wrong, api.ErrLong)
		for _, ahead := range []string{"", "[]", "[] ", "{a,", "12", "01", " ", "'", "'A'", "'a'", "a", "<", "#1", "<<1>>"} {
			refused(t, ahead+wrong, api.ErrForm)
			refused(t, ahead+wrong+"]", api.ErrForm)
		}
	}
}

// P7.1: a term whose text is far longer than its memory, since its parts share theirs, is refused without writing it all.
func TestSharedParts(t *testing.T) {
	bin := term.Bin(slices.Repeat([]byte{255}, api.MaxBin))
	row := tuple(slices.Repeat([]api.Term{bin}, api.MaxTuple)...)
	for what, x := range map[string]api.Term{
		"rows of one Bin":   tuple(slices.Repeat([]api.Term{row}, 254)...),
		"a list of one Bin": chain(term.Nil(), slices.Repeat([]api.Term{bin}, 30000)...),
	} {
		var ahead, behind runtime.MemStats
		runtime.ReadMemStats(&ahead)
		unprinted(t, what, x, api.ErrLong)
		runtime.ReadMemStats(&behind)
		// The whole text would be some 500 million bytes.
		if taken := behind.TotalAlloc - ahead.TotalAlloc; taken > 100<<20 {
			t.Errorf("Print of %s takes %d bytes of memory", what, taken)
		}
	}
}

// P7.1, R6: a term that may not be is ErrArg, also where its text would be too long.
func TestPrintTellsArgFirst(t *testing.T) {
	wrong := atom("\xff")
	for i, w := range sized(api.MaxText + 1) {
		for _, x := range []api.Term{tuple(w.x, wrong), tuple(wrong, w.x), cons(w.x, wrong)} {
			if term.Tree(x) <= api.MaxTree {
				unprinted(t, "form "+string(rune('0'+i)), x, api.ErrArg)
			}
		}
	}
	unprinted(t, "a list above MaxTree", chain(term.Nil(), make([]api.Term, api.MaxTree/2)...), api.ErrArg)
	unprinted(t, "Tuples above MaxTree", nested(api.MaxTree, term.Nil()), api.ErrArg)
}

// limited are texts at a limit of chapter 5, each with one that is past it.
func limited() map[string][2]written {
	most := make([]uint32, api.MaxLimbs)
	for i := range most {
		most[i] = 1<<32 - 1
	}
	top := big.Num{D: most}
	past := big.Add(top, big.Of(1))
	all := map[string][2]written{
		"limbs":          {{term.Num(top), big.Text(top)}, {term.Num(past), big.Text(past)}},
		"limbs, below 0": {{term.Num(big.Num{Neg: true, D: most}), "-" + big.Text(top)}, {term.Num(big.Num{Neg: true, D: past.D}), "-" + big.Text(past)}},
		"Pid":            {{term.Pid(1 << 30), "<1073741824>"}, {term.Pid(1<<30 + 1), "<1073741825>"}},
		"Ref":            {{term.Ref(1 << 30), "#1073741824"}, {term.Ref(1<<30 + 1), "#1073741825"}},
		"Tuple":          {{tuple(make([]api.Term, 255)...), "{" + joined(255, "0") + "}"}, {tuple(make([]api.Term, 256)...), "{" + joined(256, "0") + "}"}},
		"Bin":            {{term.Bin(make([]byte, 4096)), "<<" + joined(4096, "0") + ">>"}, {term.Bin(make([]byte, 4097)), "<<" + joined(4097, "0") + ">>"}},
	}
	for sign, s := range map[string]string{"A": "A", "é": "é", "😀": "😀", "\n": `\n`, "'": `\'`, "\x1f": `\x1f;`, "\x7f": `\x7f;`, "\x00": `\x0;`} {
		just := strings.Repeat(sign, api.MaxAtom)
		all["name of "+s] = [2]written{{atom(just), "'" + strings.Repeat(s, api.MaxAtom) + "'"}, {atom(just + sign), "'" + strings.Repeat(s, api.MaxAtom+1) + "'"}}
	}
	plain := strings.Repeat("a", api.MaxAtom)
	all["plain name"] = [2]written{{atom(plain), plain}, {atom(plain + "a"), plain + "a"}}
	return all
}

// P7.1: terms at a limit of chapter 5 are printed and read; past it they may not be: ErrArg of Print, ErrSyntax of Read, wherever they stand.
func TestLimitsOfTerms(t *testing.T) {
	for what, pair := range limited() {
		at, past := pair[0], pair[1]
		both(t, at.x, at.s)
		both(t, cons(tuple(at.x), at.x), "[{"+at.s+"}|"+at.s+"]")
		unprinted(t, what, past.x, api.ErrArg)
		unprinted(t, what, cons(tuple(past.x), at.x), api.ErrArg)
		for _, s := range []string{past.s, past.s + " ", "[" + past.s + "]", "{" + at.s + "," + past.s + "}", "[a|" + past.s + "]", "[{" + past.s + "}|a]"} {
			refused(t, s, api.ErrSyntax)
		}
	}
}

// P7.1: numbers far past their limits are not taken for lesser ones.
func TestGreatNumbers(t *testing.T) {
	for _, n := range []string{"256", "257", "511", "512", "1000", "1073741825", "2147483648", "4294967296", "4294967297", "576460752303423488", "9223372036854775807", "18446744073709551616", "18446744073709551617", "36893488147419103233"} {
		refused(t, "<<"+n+">>", api.ErrSyntax)
		refused(t, "<<1,"+n+",1>>", api.ErrSyntax)
		if len(n) >= 10 {
			refused(t, "<"+n+">", api.ErrSyntax)
			refused(t, "#"+n, api.ErrSyntax)
		}
	}
	for _, size := range []int{618, 619, 620, 621, 700, 5000, api.MaxText - 10} {
		n := strings.Repeat("9", size)
		for _, s := range []string{n, "-" + n, "<" + n + ">", "#" + n, "<<" + n + ">>", "{" + n + "}", "1" + strings.Repeat("0", size)} {
			refused(t, s, api.ErrSyntax)
		}
	}
}

// Names whose writing is long, with signs of many bytes behind them at each distance.
func TestLongNames(t *testing.T) {
	for _, sign := range []string{"é", "€", "😀"} {
		for signs := api.MaxAtom - 5; signs <= api.MaxAtom; signs++ {
			for plain := range 6 {
				name := strings.Repeat("x", plain) + strings.Repeat("\x01\x1f", signs/2)
				name = name[:min(len(name), api.MaxAtom)]
				s, e := Print(atom(name))
				if e != api.OK {
					t.Fatalf("%q is not printed", name)
				}
				more := strings.Repeat(sign, api.MaxAtom)
				both(t, tuple(atom(name), atom(more), atom("a")), "{"+s+",'"+more+"',a}")
				for cut := range 12 {
					reads(t, s+strings.Repeat(".", cut)+more, atom(name), len(s))
				}
			}
		}
	}
}
