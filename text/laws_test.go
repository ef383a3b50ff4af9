package text

import (
	"math"
	"math/rand/v2"
	"reflect"
	"regexp"
	"slices"
	"strconv"
	"strings"
	"testing"
	"unsafe"

	"tenement/api"
	"tenement/big"
	"tenement/term"
)

// The model: a term's text by the chapter's sentence, and what stands at a text's beginning by patterns of what may be written.

// printed is x's text, told as plainly as it can be.
func printed(x api.Term) string {
	number := strconv.Itoa(x.N)
	switch x.Kind {
	case api.Int:
		return big.Text(big.Num{Neg: x.Neg, D: x.D})
	case api.Atom:
		return quoted(x.Name)
	case api.Ref:
		return "#" + number
	case api.Pid:
		return "<" + number + ">"
	case api.Tuple:
		return "{" + strings.Join(each(x.L, printed), ",") + "}"
	case api.Cons:
		items, end := []api.Term{}, x
		for end.Kind == api.Cons {
			items, end = append(items, end.L[0]), end.L[1]
		}
		s := "[" + strings.Join(each(items, printed), ",")
		if end.Kind != api.Nil {
			s += "|" + printed(end)
		}
		return s + "]"
	case api.Bin:
		return "<<" + strings.Join(each(x.B, func(b byte) string { return strconv.Itoa(int(b)) }), ",") + ">>"
	}
	return "[]"
}

func each[T any](l []T, f func(T) string) []string {
	var all []string
	for _, x := range l {
		all = append(all, f(x))
	}
	return all
}

func quoted(name string) string {
	if regexp.MustCompile(`^[a-z][a-zA-Z0-9_@]*$`).MatchString(name) && !strings.Contains(name, "\n") {
		return name
	}
	s := "'"
	for _, r := range name {
		switch {
		case r == '\n':
			s += `\n`
		case r < 32 || r == 127:
			s += `\x` + strconv.FormatInt(int64(r), 16) + ";"
		case r == '\'' || r == '\\':
			s += `\` + string(r)
		default:
			s += string(r)
		}
	}
	return s + "'"
}

// What has no parts, as it may be written; a name between quotes only as far as it can be told without what it means.
var (
	numbers = regexp.MustCompile(`^-?[0-9]+`)
	pids    = regexp.MustCompile(`^<[0-9]+>`)
	refs    = regexp.MustCompile(`^#[0-9]+`)
	bins    = regexp.MustCompile(`^<<(?:[0-9]+(?:,[0-9]+)*)?>>`)
	names   = regexp.MustCompile(`^[a-z][a-zA-Z0-9_@]*`)
	quotes  = regexp.MustCompile(`^'(?:[^'\\\x00-\x1f\x7f]|\\['\\n]|\\x[0-9a-f]{1,2};)*'`)
	natural = regexp.MustCompile(`^(?:0|[1-9][0-9]*)$`)
)

// beginning tells how many bytes the term at the beginning of s takes, 0 if none stands there. It knows no limits but those of bytes, Pids and Refs.
func beginning(s string) int {
	switch {
	case strings.HasPrefix(s, "{"):
		return inRow(s, "}", false)
	case strings.HasPrefix(s, "["):
		return inRow(s, "]", true)
	}
	for _, p := range []*regexp.Regexp{bins, pids, refs, numbers} {
		if found := p.FindString(s); found != "" {
			return well(found)
		}
	}
	if found := names.FindString(s); found != "" {
		return len(found)
	}
	if found := quotes.FindString(s); found != "" && quoted(meant(found)) == found {
		return len(found)
	}
	return 0
}

// well is the length of a text of numbers, 0 if one of them is written otherwise.
func well(found string) int {
	inner := strings.Trim(found, "<>#")
	if inner == "" {
		return len(found)
	}
	most := math.MaxInt
	switch {
	case strings.HasPrefix(found, "<<"):
		most = 255
	case found[0] == '<' || found[0] == '#':
		most = 1 << 30
	}
	for _, n := range strings.Split(inner, ",") {
		minus := strings.HasPrefix(n, "-")
		n = strings.TrimPrefix(n, "-")
		worth, _ := strconv.Atoi(n)
		if !natural.MatchString(n) || minus && n == "0" || worth > most {
			return 0
		}
	}
	return len(found)
}

// meant is what a name between quotes means.
func meant(s string) string {
	s = strings.TrimSuffix(strings.TrimPrefix(s, "'"), "'")
	return regexp.MustCompile(`\\x[0-9a-f]+;|\\.`).ReplaceAllStringFunc(s, func(e string) string {
		if n, found := strings.CutPrefix(e, `\x`); found {
			r, _ := strconv.ParseInt(strings.TrimSuffix(n, ";"), 16, 32)
			return string(rune(r))
		}
		return strings.ReplaceAll(e[1:], "n", "\n")
	})
}

// inRow is beginning of a Tuple or a list.
func inRow(s, end string, list bool) int {
	at := 1
	if strings.HasPrefix(s[at:], end) {
		return 2
	}
	for {
		size := beginning(s[at:])
		if size == 0 {
			return 0
		}
		at += size
		switch {
		case strings.HasPrefix(s[at:], end):
			return at + 1
		case strings.HasPrefix(s[at:], ","):
			at++
		case list && strings.HasPrefix(s[at:], "|"):
			return lastOf(s, at+1)
		default:
			return 0
		}
	}
}

// lastOf is where a list ends whose end, no list, begins at that place.
func lastOf(s string, at int) int {
	size := beginning(s[at:])
	if size == 0 || s[at] == '[' || !strings.HasPrefix(s[at+size:], "]") {
		return 0
	}
	return at + size + 1
}

// asModel holds Read and Parse of s against the model, and Print of what they answer against s.
func asModel(t *testing.T, s string) bool {
	t.Helper()
	want := beginning(s)
	x, n, e := Read(s)
	y, f := Parse(s)
	whole := want > 0 && want == len(s)
	if want == 0 && (n != 0 || e != api.ErrSyntax || f != api.ErrSyntax || !plainly(x, api.Term{})) || want > 0 && (n != want || e != api.OK) {
		t.Fatalf("Read(%q) is %d, %d, want %d bytes", s, n, e, want)
	}
	if whole != (f == api.OK) || !whole && (f != api.ErrSyntax || !plainly(y, api.Term{})) {
		t.Fatalf("Parse(%q) is %d", s, f)
	}
	if want > 0 {
		if again, e := Print(x); again != s[:want] || e != api.OK || printed(x) != again {
			t.Fatalf("%q is read, and printed as %q, %d", s[:want], again, e)
		}
	}
	return whole
}

// P7.1, P7.2: all texts of few signs, of those that mean something.
func TestAllShortTexts(t *testing.T) {
	signs := strings.Split("[]{}<>#-,|'\\0a", "")
	taken := 0
	last := []string{""}
	for range 5 {
		var next []string
		for _, w := range last {
			for _, sign := range signs {
				next = append(next, w+sign)
			}
		}
		for _, s := range next {
			if asModel(t, s) {
				taken++
			}
		}
		last = next
	}
	if taken < 100 {
		t.Errorf("only %d are terms", taken)
	}
}

// drawn is a term of chance that may be.
func drawn(draw *rand.Rand, deep int) api.Term {
	kind := draw.IntN(8)
	if deep > 0 && draw.IntN(3) > 0 {
		kind = []int{api.Tuple, api.Cons, api.Cons}[draw.IntN(3)]
	}
	if deep == 0 && (kind == api.Tuple || kind == api.Cons) {
		kind = api.Nil
	}
	switch kind {
	case api.Int:
		d := make([]uint32, draw.IntN(4))
		for i := range d {
			d[i] = draw.Uint32() >> draw.IntN(32)
		}
		return term.Num(big.Num{Neg: draw.IntN(2) == 0, D: d})
	case api.Atom:
		name := ""
		for range draw.IntN(5) {
			name += []string{"a", "b", "B", "9", "_", "@", " ", "'", `\`, "n", "x", ";", "\n", "\x00", "\x1f", "\x7f", "é", "😀", "[", "]", ","}[draw.IntN(21)]
		}
		return atom(name)
	case api.Ref, api.Pid:
		return api.Term{Kind: kind, N: draw.IntN(1<<30+1) >> draw.IntN(31)}
	case api.Tuple:
		x := tuple()
		for range draw.IntN(4) {
			x.L = append(x.L, drawn(draw, deep-1))
		}
		return x
	case api.Cons:
		return cons(drawn(draw, deep-1), drawn(draw, deep-1))
	case api.Bin:
		b := make([]byte, draw.IntN(5))
		for i := range b {
			b[i] = byte(draw.IntN(256) >> draw.IntN(9))
		}
		return term.Bin(b)
	}
	return term.Nil()
}

// P7.2: terms of chance: Print is as the model's, Parse of it is the term.
func TestParseOfPrint(t *testing.T) {
	draw := rand.New(rand.NewPCG(7, 7))
	for range 20000 {
		x := drawn(draw, draw.IntN(6))
		s, e := Print(x)
		if e != api.OK || s != printed(x) {
			t.Fatalf("Print is %q, %d, want %q", s, e, printed(x))
		}
		if y, e := Parse(s); e != api.OK || !plainly(x, y) || !term.Same(x, y) {
			t.Fatalf("Parse(%q) is %+v, %d", s, y, e)
		}
	}
}

// P7.2: texts of chance, near to those of terms: what is taken is printed as it was, what is not, by the model neither.
func TestPrintOfParse(t *testing.T) {
	draw := rand.New(rand.NewPCG(7, 8))
	signs := []string{"[", "]", "{", "}", "<", ">", "#", "-", ",", "|", "'", `\`, ";", "0", "1", "9", "a", "A", "n", "x", " ", "é", "\n"}
	taken := 0
	for range 30000 {
		s := printed(drawn(draw, draw.IntN(5)))
		for range draw.IntN(4) {
			s = altered(draw, s, signs)
		}
		if asModel(t, s) {
			taken++
		}
	}
	if taken < 5000 || taken > 28000 {
		t.Errorf("%d are taken", taken)
	}
}

// altered is s with a sign more, a sign less, or another at one place.
func altered(draw *rand.Rand, s string, signs []string) string {
	l := strings.Split(s, "")
	if len(l) == 0 {
		return s
	}
	at := draw.IntN(len(l))
	sign := signs[draw.IntN(len(signs))]
	switch draw.IntN(3) {
	case 0:
		l = slices.Insert(l, at, sign)
	case 1:
		l = slices.Delete(l, at, at+1)
	case 2:
		l[at] = sign
	}
	return strings.Join(l, "")
}

// R5: what is answered hangs on the argument, not on what was asked ahead, nor on what was left half gone through.
func TestAnswersHangOnArguments(t *testing.T) {
	const s = "[{a,'B'},<<1,2>>|-5]"
	for range 3 {
		x, n, e := Read(s + "]")
		if got, f := Print(x); got != s || n != len(s) || e != api.OK || f != api.OK {
			t.Fatalf("%q, %d, %d, %d", got, n, e, f)
		}
		refused(t, "[{a,[b,{c|", api.ErrSyntax)
		unprinted(t, "a wrong one", tuple(cons(x, x), atom("\xff")), api.ErrArg)
		unprinted(t, "a long one", ones(api.MaxText+1, written{x: term.Nil()}).x, api.ErrLong)
	}
}

// span is where a list lies in memory, spare room too.
type span struct {
	from, to uintptr
}

// spans adds those of all lists of a term, and of its names.
func spans(at []span, t api.Term) []span {
	at = add(at, t.D)
	at = add(at, t.B)
	at = add(at, memory(t.Name))
	at = add(at, t.L)
	for _, x := range t.L {
		at = spans(at, x)
	}
	return at
}

func memory(s string) []byte { return unsafe.Slice(unsafe.StringData(s), len(s)) }

func add[T any](at []span, l []T) []span {
	if cap(l) == 0 {
		return at
	}
	from := uintptr(unsafe.Pointer(unsafe.SliceData(l)))
	return append(at, span{from, from + uintptr(cap(l))*unsafe.Sizeof(l[:1][0])})
}

// apart tells whether no two of these overlap.
func apart(at []span) bool {
	slices.SortFunc(at, func(a, b span) int { return int(a.from) - int(b.from) })
	for i := 1; i < len(at); i++ {
		if at[i].from < at[i-1].to {
			return false
		}
	}
	return true
}

// spacious is t with room behind each list, which holds what must stay.
func spacious(t api.Term) api.Term {
	t.D = append(slices.Clone(t.D), 11, 22, 33)[:len(t.D)]
	t.B = append(slices.Clone(t.B), 11, 22, 33)[:len(t.B)]
	t.Name = strings.Clone(t.Name)
	l := make([]api.Term, len(t.L), len(t.L)+2)
	for i, x := range t.L {
		l[i] = spacious(x)
	}
	t.L = append(l, atom("spare"), term.Int(44))[:len(l)]
	return t
}

// picture is all that can be told of a term, spare room too.
func picture(t api.Term) api.Term {
	t.D = slices.Clone(t.D[:cap(t.D)])
	t.B = slices.Clone(t.B[:cap(t.B)])
	l := make([]api.Term, cap(t.L))
	for i, x := range t.L[:cap(t.L)] {
		l[i] = picture(x)
	}
	t.L = l
	return t
}

// samples are terms of each kind, right ones and wrong ones.
func samples() []api.Term {
	all := append(mayNot(), atom("ok"), atom("It's"), term.Int(1<<40), term.List(term.Int(1), term.Tuple(term.Bin([]byte{1}), atom("abc"))), cons(tuple(atom("É")), term.Pid(1)), tuple(atom("a"), atom("a"), term.Int(7), term.Int(7)))
	for kind := range api.Bin + 1 {
		all = append(all, plain(kind))
	}
	draw := rand.New(rand.NewPCG(7, 9))
	for range 200 {
		all = append(all, drawn(draw, 4))
	}
	return all
}

// R4: Print changes nothing of what it is handed, spare room too, and answers new memory.
func TestMemoryOfPrint(t *testing.T) {
	for _, x := range samples() {
		x = spacious(x)
		was := picture(x)
		s, _ := Print(x)
		if !reflect.DeepEqual(picture(x), was) {
			t.Fatalf("%+v is changed", was)
		}
		if len(s) > 1 && !apart(add(spans(nil, x), memory(s))) {
			t.Fatalf("%q shares memory with its term", s)
		}
	}
}

// R4: Read and Parse answer new memory, no two lists of which share any.
func TestMemoryOfRead(t *testing.T) {
	for _, x := range samples() {
		s, e := Print(x)
		if e != api.OK {
			continue
		}
		s = strings.Clone(s + "|")
		y, _, _ := Read(s)
		z, _ := Parse(s[:len(s)-1])
		given, answered := add(nil, memory(s)), spans(spans(nil, y), z)
		if !plainly(x, y) || !plainly(x, z) {
			t.Fatalf("%q is read as another term", s)
		}
		if !apart(append(given, answered...)) {
			t.Fatalf("what is read from %q shares memory", s)
		}
	}
}

// R4, R5: what was answered does not change with a later call, and does not change what a later call answers.
func TestNothingKept(t *testing.T) {
	for _, s := range []string{"[]", "{}", "<<>>", "0", "7", "-18446744073709551616", "ok", "'It\\'s'", "<3>", "#4", "{ok,[1,<3>|#4],<<1,2>>}", "[[],[],{}|{}]"} {
		first, e := Parse(s)
		if e != api.OK {
			t.Fatalf("%q is refused", s)
		}
		was := picture(first)
		second, _ := Parse(s)
		Print(first)
		Parse("{other,[2,<4>|#5],<<3,4>>}")
		if !reflect.DeepEqual(picture(first), was) {
			t.Errorf("what was read from %q changes", s)
		}
		clear(second.D[:cap(second.D)])
		clear(second.B[:cap(second.B)])
		clear(second.L[:cap(second.L)])
		if third, _ := Parse(s); !plainly(third, first) || !reflect.DeepEqual(picture(first), was) {
			t.Errorf("what is read from %q hangs on an answer ahead", s)
		}
	}
}
