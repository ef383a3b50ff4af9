package big

import (
	"fmt"
	"math"
	oracle "math/big"
	"slices"
	"strings"
	"testing"

	"tenement/api"
)

const top = math.MaxUint32

// limbs makes a Num that is not Neg.
func limbs(d ...uint32) Num { return Num{D: d} }

// minus is the same number on the other side of 0.
func minus(a Num) Num { return Num{Neg: !a.Neg, D: slices.Clone(a.D)} }

// power is 2^(32 n).
func power(n int) Num {
	d := make([]uint32, n+1)
	d[n] = 1
	return Num{D: d}
}

// full is 2^(32 n) - 1.
func full(n int) Num { return Num{D: slices.Repeat([]uint32{top}, n)} }

// told is what the library makes of a Num.
func told(a Num) *oracle.Int {
	x := new(oracle.Int)
	for i := len(a.D) - 1; i >= 0; i-- {
		x.Lsh(x, 32)
		x.Or(x, new(oracle.Int).SetUint64(uint64(a.D[i])))
	}
	if a.Neg {
		x.Neg(x)
	}
	return x
}

// from is a Num of what the library reckoned.
func from(x *oracle.Int) Num {
	left, mask := new(oracle.Int).Abs(x), oracle.NewInt(top)
	a := Num{Neg: x.Sign() < 0}
	for left.Sign() > 0 {
		a.D = append(a.D, uint32(new(oracle.Int).And(left, mask).Uint64()))
		left.Rsh(left, 32)
	}
	return a
}

func equal(a, b Num) bool { return a.Neg == b.Neg && slices.Equal(a.D, b.D) }

func zero(a Num) bool { return !a.Neg && len(a.D) == 0 }

// loose is a number that is no Norm, the same by its worth.
func loose(a Num) Num {
	d := append(slices.Clone(a.D), 0, 0, 0)
	return Num{Neg: a.Neg || len(a.D) == 0, D: d}
}

// samples are numbers at the edges, with both signs.
func samples() []Num {
	up := []Num{
		{}, limbs(1), limbs(2), limbs(7), limbs(9), limbs(10), limbs(top), limbs(1 << 31), limbs(1<<31 - 1),
		limbs(0, 1), limbs(1, 1), limbs(top, 1), limbs(0, 1<<31), limbs(1, 1<<31), limbs(top, 1<<31), limbs(top, top), limbs(0, top), limbs(top-1, top),
		limbs(0, 1<<27), limbs(top, 1<<27-1), limbs(1, 1<<27),
		limbs(0, 0, 1), limbs(0, 0, 1<<31), limbs(top, top, top), limbs(0, top, top), limbs(top, 0, top), limbs(3, 0, 1<<31), limbs(1, 0, 1<<29), limbs(top, top, 1<<31-1),
		limbs(0, 0, 1<<31, 1<<31), limbs(3, 0, 0, 1<<31), limbs(0, top-1, 1<<31), limbs(0, 0, 1<<31, 1<<31-1), limbs(0, 0, 1<<31-1, 1<<31),
		power(7), full(7), power(63), full(64), power(64), limbs(1000000000), limbs(999999999), limbs(2808348672, 232830643),
	}
	all := slices.Clone(up)
	for _, a := range up[1:] {
		all = append(all, minus(a))
	}
	return all
}

// draw gives numbers that look like any, limbs of noughts and of ones among them.
func draw(seed *uint64, n int) Num {
	next := func() uint32 {
		*seed = *seed*6364136223846793005 + 1442695040888963407
		return uint32(*seed >> 32)
	}
	a := Num{Neg: next()&1 == 1}
	for range n {
		switch next() % 5 {
		case 0:
			a.D = append(a.D, 0)
		case 1:
			a.D = append(a.D, top)
		case 2:
			a.D = append(a.D, 1<<31)
		default:
			a.D = append(a.D, next())
		}
	}
	return a
}

// P3.1: Of, and what a number is: the lowest limb first, the highest not 0, 0 without limbs and not Neg.
func TestOf(t *testing.T) {
	cases := []struct {
		n    int64
		want Num
	}{
		{0, Num{}},
		{1, limbs(1)},
		{-1, minus(limbs(1))},
		{top, limbs(top)},
		{-top, minus(limbs(top))},
		{1 << 32, limbs(0, 1)},
		{-1 << 32, minus(limbs(0, 1))},
		{-4294967297, minus(limbs(1, 1))},
		{1<<59 - 1, limbs(top, 1<<27-1)},
		{-1 << 59, minus(limbs(0, 1<<27))},
		{math.MaxInt64, limbs(top, 1<<31-1)},
		{math.MinInt64 + 1, minus(limbs(top, 1<<31-1))},
		{math.MinInt64, minus(limbs(0, 1<<31))},
	}
	for _, c := range cases {
		if got := Of(c.n); !equal(got, c.want) {
			t.Errorf("Of(%d) = %v, want %v", c.n, got, c.want)
		}
	}
}

func TestNorm(t *testing.T) {
	cases := []struct{ a, want Num }{
		{Num{}, Num{}},
		{Num{Neg: true}, Num{}},
		{Num{Neg: true, D: []uint32{}}, Num{}},
		{limbs(0), Num{}},
		{Num{Neg: true, D: []uint32{0, 0}}, Num{}},
		{limbs(3, 0), limbs(3)},
		{limbs(3, 0, 0, 0), limbs(3)},
		{limbs(0, 3, 0), limbs(0, 3)},
		{limbs(0, 0, 3), limbs(0, 0, 3)},
		{Num{Neg: true, D: []uint32{3, 0}}, Num{Neg: true, D: []uint32{3}}},
		{loose(full(200)), full(200)},
	}
	for _, c := range cases {
		if got := Norm(c.a); !equal(got, c.want) {
			t.Errorf("Norm(%v) = %v, want %v", c.a, got, c.want)
		}
	}
}

// P3.1: Small from -2^59 to 2^59 - 1, and one beyond each.
func TestSmall(t *testing.T) {
	const bound = int64(1) << 59
	for _, n := range []int64{0, 1, -1, top, -top, 1 << 32, -1 << 32, bound - 2, bound - 1, -bound + 1, -bound} {
		for _, a := range []Num{Of(n), loose(Of(n))} {
			if got, ok := Small(a); !ok || got != n {
				t.Errorf("Small(%v) = %d, %v, want %d", a, got, ok, n)
			}
		}
	}
	beyond := []Num{
		Of(bound), Of(bound + 1), Of(-bound - 1), Of(math.MaxInt64), Of(math.MinInt64), Of(math.MinInt64 + 1),
		limbs(0, 1<<31), limbs(top, top), minus(limbs(top, top)), limbs(0, 0, 1), minus(limbs(0, 0, 1)), limbs(5, 0, 1), full(200),
	}
	for _, a := range beyond {
		if got, ok := Small(a); ok || got != 0 {
			t.Errorf("Small(%v) = %d, %v, want 0, false", a, got, ok)
		}
	}
}

// reckon holds all that two numbers give against what the library says.
func reckon(t *testing.T, a, b Num) {
	t.Helper()
	x, y := told(a), told(b)
	check := func(what string, got Num, want *oracle.Int) {
		t.Helper()
		if !equal(got, from(want)) {
			t.Errorf("%s of %v and %v: %v, want %v", what, a, b, got, from(want))
		}
	}
	check("Add", Add(a, b), new(oracle.Int).Add(x, y))
	check("Sub", Sub(a, b), new(oracle.Int).Sub(x, y))
	if got := Compare(a, b); got != x.Cmp(y) {
		t.Errorf("Compare(%v, %v) = %d", a, b, got)
	}
	m, ok := Mul(a, b)
	want := new(oracle.Int).Mul(x, y)
	fits := max(x.BitLen(), y.BitLen(), want.BitLen()) <= 2*api.MaxLimbs*32
	if !fits {
		want = new(oracle.Int)
	}
	check("Mul", m, want)
	if ok != fits {
		t.Errorf("Mul(%v, %v): %v, want %v", a, b, ok, fits)
	}
	q, r, ok := Div(a, b)
	if ok != (y.Sign() != 0) {
		t.Errorf("Div(%v, %v): %v", a, b, ok)
	}
	wantQ, wantR := new(oracle.Int), new(oracle.Int)
	if y.Sign() != 0 {
		wantQ.QuoRem(x, y, wantR)
	}
	check("quotient", q, wantQ)
	check("rest", r, wantR)
}

// P3.1, P3.3: all pairs of numbers at the edges, as Norms and not.
func TestPairs(t *testing.T) {
	all := samples()
	for _, a := range all {
		for _, b := range all {
			reckon(t, a, b)
			reckon(t, loose(a), b)
			reckon(t, a, loose(b))
			reckon(t, loose(a), loose(b))
		}
	}
}

// P3.1, P3.3: numbers of all sizes, with limbs that force guesses too great.
func TestDrawn(t *testing.T) {
	seed := uint64(1)
	for i := range 30000 {
		reckon(t, draw(&seed, i%13), draw(&seed, i/13%7))
	}
	for i := range 300 {
		reckon(t, draw(&seed, 60+i%80), draw(&seed, 1+i%70))
	}
}

// P3.1: the document's own words on signs: the quotient is cut towards 0, the rest has a's sign.
func TestSigns(t *testing.T) {
	cases := [][4]int64{
		{7, 2, 3, 1}, {-7, 2, -3, -1}, {7, -2, -3, 1}, {-7, -2, 3, -1},
		{6, 2, 3, 0}, {-6, 2, -3, 0}, {6, -2, -3, 0}, {-6, -2, 3, 0},
		{1, 2, 0, 1}, {-1, 2, 0, -1}, {1, -2, 0, 1}, {-1, -2, 0, -1},
		{0, 5, 0, 0}, {0, -5, 0, 0},
		{1<<40 + 3, 1 << 33, 1 << 7, 3}, {-1<<40 - 3, 1 << 33, -1 << 7, -3}, {1<<40 + 3, -1 << 33, -1 << 7, 3}, {-1<<40 - 3, -1 << 33, 1 << 7, -3},
		{math.MinInt64, math.MaxInt64, -1, -1},
	}
	for _, c := range cases {
		q, r, ok := Div(Of(c[0]), Of(c[1]))
		if !ok || !equal(q, Of(c[2])) || !equal(r, Of(c[3])) {
			t.Errorf("Div(%d, %d) = %v, %v, %v, want %d, %d", c[0], c[1], q, r, ok, c[2], c[3])
		}
	}
	q, r, ok := Div(Of(math.MinInt64), Of(-1))
	if !ok || !equal(q, limbs(0, 1<<31)) || !zero(r) {
		t.Errorf("the least int64 by -1: %v, %v, %v", q, r, ok)
	}
}

func TestDivisionByNought(t *testing.T) {
	for _, a := range []Num{{}, Of(5), Of(-5), full(200)} {
		for _, b := range []Num{{}, {Neg: true}, {D: []uint32{}}, limbs(0), {Neg: true, D: []uint32{0, 0}}} {
			if q, r, ok := Div(a, b); ok || !zero(q) || !zero(r) {
				t.Errorf("Div(%v, %v) = %v, %v, %v", a, b, q, r, ok)
			}
		}
	}
}

// P3.1: what is carried goes through many limbs, and may end there.
func TestCarries(t *testing.T) {
	one := Of(1)
	for _, n := range []int{1, 2, 3, 64, 65, 128, 129, 1000} {
		if got := Add(full(n), one); !equal(got, power(n)) {
			t.Errorf("2^(32*%d) - 1 and 1: %v", n, got)
		}
		if got := Sub(power(n), one); !equal(got, full(n)) {
			t.Errorf("2^(32*%d) without 1: %v", n, got)
		}
		if got := Sub(one, power(n)); !equal(got, minus(full(n))) {
			t.Errorf("1 without 2^(32*%d): %v", n, got)
		}
		if got := Add(minus(full(n)), minus(one)); !equal(got, minus(power(n))) {
			t.Errorf("1 - 2^(32*%d) and -1: %v", n, got)
		}
		if got := Sub(power(n), power(n)); !zero(got) {
			t.Errorf("2^(32*%d) without itself: %v", n, got)
		}
		if got := Add(minus(power(n)), power(n)); !zero(got) {
			t.Errorf("-2^(32*%d) and 2^(32*%d): %v", n, n, got)
		}
	}
}

// P3.1: a product may have just 2 MaxLimbs limbs, and so may a factor.
func TestMulBounds(t *testing.T) {
	const most = 2 * api.MaxLimbs
	cases := []struct {
		a, b  Num
		limbs int
		ok    bool
	}{
		{full(api.MaxLimbs), full(api.MaxLimbs), most, true},
		{power(api.MaxLimbs), power(api.MaxLimbs - 1), most, true}, // 65 and 64 limbs
		{full(api.MaxLimbs + 1), full(api.MaxLimbs), 0, false},
		{power(api.MaxLimbs), power(api.MaxLimbs), 0, false},
		{full(most), Of(1), most, true},
		{full(most), Of(-1), most, true},
		{full(most), Of(2), 0, false},
		{power(most - 1), Of(top), most, true},
		{power(most - 1), power(1), 0, false},
		{full(most), Num{}, 0, true},
		{loose(full(most)), loose(Num{}), 0, true},
		{loose(full(most)), Of(1), most, true},
		{power(most), Num{}, 0, false},
		{power(most), Of(1), 0, false},
		{full(most + 1), Num{Neg: true, D: []uint32{0}}, 0, false},
		{full(5000), full(5000), 0, false},
	}
	for i, c := range cases {
		for _, pair := range [][2]Num{{c.a, c.b}, {c.b, c.a}} {
			m, ok := Mul(pair[0], pair[1])
			if ok != c.ok || len(m.D) != c.limbs || !ok && !zero(m) {
				t.Errorf("case %d: %d limbs, %v, want %d, %v", i, len(m.D), ok, c.limbs, c.ok)
			}
			if ok && told(m).Cmp(new(oracle.Int).Mul(told(c.a), told(c.b))) != 0 {
				t.Errorf("case %d: wrong product", i)
			}
		}
	}
}

// P3.1: Add, Sub, Div and Compare have no limit of limbs.
func TestMoreThanMaxLimbs(t *testing.T) {
	wide := full(3000)
	if got := Add(wide, wide); told(got).Cmp(new(oracle.Int).Lsh(told(wide), 1)) != 0 {
		t.Error("Add of 3000 limbs")
	}
	q, r, ok := Div(wide, full(1000))
	if want := Add(Add(power(2000), power(1000)), Of(1)); !ok || !zero(r) || !equal(q, want) {
		t.Error("Div of 3000 limbs")
	}
	if Compare(wide, power(3000)) != -1 || Compare(minus(wide), minus(power(3000))) != 1 {
		t.Error("Compare of 3000 limbs")
	}
	if Text(wide) != told(wide).String() {
		t.Error("Text of 3000 limbs")
	}
}

func TestCompare(t *testing.T) {
	rising := []Num{minus(power(64)), minus(full(2)), minus(limbs(0, 1)), Of(-2), Of(-1), {}, Of(1), Of(2), limbs(0, 1), limbs(1, 1), limbs(0, 2), full(2), power(2), power(64)}
	for i, a := range rising {
		for j, b := range rising {
			want := 0
			if i < j {
				want = -1
			} else if i > j {
				want = 1
			}
			if got := Compare(a, b); got != want {
				t.Errorf("Compare(%v, %v) = %d, want %d", a, b, got, want)
			}
		}
	}
	if Compare(Num{Neg: true}, limbs(0)) != 0 {
		t.Error("0 that is Neg is not 0")
	}
}

// P3.2: decimal digits, - ahead, if it is Neg.
func TestText(t *testing.T) {
	cases := []struct {
		a    Num
		want string
	}{
		{Num{}, "0"},
		{Num{Neg: true, D: []uint32{0, 0}}, "0"},
		{Of(1), "1"},
		{Of(-1), "-1"},
		{Of(10), "10"},
		{Of(-100), "-100"},
		{Of(999999999), "999999999"},
		{Of(1000000000), "1000000000"},
		{Of(1000000001), "1000000001"},
		{Of(-1000000000000000000), "-1000000000000000000"},
		{Of(1000000000000000001), "1000000000000000001"},
		{Of(math.MinInt64), "-9223372036854775808"},
		{Of(math.MaxInt64), "9223372036854775807"},
		{limbs(top, 0, 0), "4294967295"},
		{limbs(0, 0, 1), "18446744073709551616"},
	}
	for _, c := range cases {
		if got := Text(c.a); got != c.want {
			t.Errorf("Text(%v) = %s, want %s", c.a, got, c.want)
		}
	}
	seed := uint64(7)
	for i := range 2000 {
		a := draw(&seed, i%70)
		if got := Text(a); got != told(a).String() {
			t.Errorf("Text(%v) = %s, want %s", a, got, told(a))
		}
	}
}

// P3.2, P3.3: what is a text is read as it was.
func TestRead(t *testing.T) {
	texts := []string{"0", "1", "-1", "9", "10", "-10", "4294967295", "4294967296", "-4294967296", "18446744073709551616", "100000000000000000000000000000", strings.Repeat("9", 616), "-" + strings.Repeat("9", 616), "1" + strings.Repeat("0", 616), Text(full(api.MaxLimbs)), Text(minus(full(api.MaxLimbs)))}
	for _, s := range texts {
		a, e := Parse(s)
		want, _ := new(oracle.Int).SetString(s, 10)
		if e != api.OK || !equal(a, from(want)) || Text(a) != s {
			t.Errorf("Parse(%s) = %v, %v", s, a, e)
		}
	}
	for _, a := range samples() {
		if len(a.D) > api.MaxLimbs {
			continue
		}
		got, e := Parse(Text(a))
		if e != api.OK || !equal(got, a) {
			t.Errorf("%v is read as %v, %v", a, got, e)
		}
	}
}

// P3.2: which texts are refused, and that a wrong one is told ahead of one that is too long.
func TestRefused(t *testing.T) {
	nines := func(n int) string { return strings.Repeat("9", n) }
	cases := []struct {
		s    string
		want api.Errno
	}{
		{"", api.ErrSyntax},
		{"-", api.ErrSyntax},
		{"--1", api.ErrSyntax},
		{"-0", api.ErrSyntax},
		{"00", api.ErrSyntax},
		{"-00", api.ErrSyntax},
		{"01", api.ErrSyntax},
		{"-01", api.ErrSyntax},
		{"+1", api.ErrSyntax},
		{"+0", api.ErrSyntax},
		{" 1", api.ErrSyntax},
		{"1 ", api.ErrSyntax},
		{"1\n", api.ErrSyntax},
		{"a", api.ErrSyntax},
		{"a1", api.ErrSyntax},
		{"12a", api.ErrSyntax},
		{"1a2", api.ErrSyntax},
		{"1-", api.ErrSyntax},
		{"1-2", api.ErrSyntax},
		{"1/", api.ErrSyntax},
		{"1:", api.ErrSyntax},
		{"1_000", api.ErrSyntax},
		{"1.0", api.ErrSyntax},
		{"0x1", api.ErrSyntax},
		{"1\x00", api.ErrSyntax},
		{"\xff", api.ErrSyntax},
		{"1\xff", api.ErrSyntax},
		{"١", api.ErrSyntax}, // digits elsewhere
		{"1２", api.ErrSyntax},
		{Text(power(api.MaxLimbs)), api.ErrLong},
		{Text(minus(power(api.MaxLimbs))), api.ErrLong},
		{nines(617), api.ErrLong},
		{nines(620), api.ErrLong},
		{"-" + nines(620), api.ErrLong},
		{nines(621), api.ErrLong},
		{"-" + nines(621), api.ErrLong},
		{nines(100000), api.ErrLong},
		{"1" + strings.Repeat("0", 620), api.ErrLong},
		{nines(621) + "x", api.ErrSyntax},
		{"x" + nines(621), api.ErrSyntax},
		{strings.Repeat("0", 621), api.ErrSyntax},
		{"-" + strings.Repeat("0", 621), api.ErrSyntax},
		{"0" + nines(620), api.ErrSyntax},
		{nines(618) + "x", api.ErrSyntax},
	}
	for _, c := range cases {
		if a, e := Parse(c.s); e != c.want || !zero(a) {
			t.Errorf("Parse(%.40q, %d bytes) = %v, %v, want %v", c.s, len(c.s), a, e, c.want)
		}
	}
}

// P3.2: every short text, against the sentence written as a rule.
func TestShortTexts(t *testing.T) {
	signs := "-0189/:a"
	var walk func(s string)
	walk = func(s string) {
		digits := strings.TrimPrefix(s, "-")
		right := digits != "" && strings.Trim(digits, "0123456789") == "" && !strings.Contains(digits, "-") && (digits[0] != '0' || s == "0")
		a, e := Parse(s)
		if right != (e == api.OK) || right && Text(a) != s || !right && (e != api.ErrSyntax || !zero(a)) {
			t.Errorf("Parse(%q) = %v, %v", s, a, e)
		}
		if len(s) == 5 {
			return
		}
		for _, sign := range signs {
			walk(s + string(sign))
		}
	}
	walk("")
}

func TestExamples(t *testing.T) {
	m, ok := Mul(Of(4294967296), Of(4294967296))
	q, r, is := Div(Of(-7), Of(2))
	got := fmt.Sprint(Text(m), ok, " ", Text(q), " ", Text(r), is)
	if got != "18446744073709551616true -3 -1true" {
		t.Error(got)
	}
}

// pair are two arguments with spare room behind them, which holds what must stay.
func pair(a, b Num) (Num, Num, func() bool) {
	wide := func(a Num) (Num, []uint32) {
		all := append(slices.Clone(a.D), 11, 22, 33)
		return Num{Neg: a.Neg, D: all[:len(a.D)]}, all
	}
	x, allX := wide(a)
	y, allY := wide(b)
	keptX, keptY := slices.Clone(allX), slices.Clone(allY)
	return x, y, func() bool { return slices.Equal(allX, keptX) && slices.Equal(allY, keptY) }
}

// scribble writes over all that an answer holds, spare room too.
func scribble(a Num) {
	d := a.D[:cap(a.D)]
	for i := range d {
		d[i] = 0xdead
	}
}

// calls are those that answer Nums, each with its answers.
func calls() map[string]func(a, b Num) []Num {
	return map[string]func(a, b Num) []Num{
		"Norm": func(a, b Num) []Num { return []Num{Norm(a), Norm(b)} },
		"Add":  func(a, b Num) []Num { return []Num{Add(a, b)} },
		"Sub":  func(a, b Num) []Num { return []Num{Sub(a, b)} },
		"Mul":  func(a, b Num) []Num { m, _ := Mul(a, b); return []Num{m} },
		"Div":  func(a, b Num) []Num { q, r, _ := Div(a, b); return []Num{q, r} },
	}
}

// R4: what is handed in is not changed, and what is answered is new memory, spare room too; no two lists share any.
func TestMemory(t *testing.T) {
	all := samples()
	for _, a := range all {
		all = append(all, loose(a))
	}
	for name, call := range calls() {
		for _, a := range all {
			for _, b := range all {
				x, y, kept := pair(a, b)
				got := call(x, y)
				if !kept() {
					t.Fatalf("%s of %v and %v changes them", name, a, b)
				}
				for i, n := range got {
					before := make([][]uint32, len(got))
					for j, other := range got {
						before[j] = slices.Clone(other.D)
					}
					scribble(n)
					for j, other := range got {
						if i != j && !slices.Equal(other.D, before[j]) {
							t.Fatalf("%s of %v and %v: two answers share memory", name, a, b)
						}
					}
				}
				if !kept() {
					t.Fatalf("%s of %v and %v answers their memory", name, a, b)
				}
			}
		}
	}
}

// R4, for the calls that answer no list, and for those that take a number twice.
func TestMemoryOfOthers(t *testing.T) {
	for _, a := range samples() {
		x, y, kept := pair(a, loose(a))
		Small(x)
		Small(y)
		Compare(x, y)
		Compare(y, x)
		Text(x)
		Text(y)
		if !kept() {
			t.Errorf("%v is changed", a)
		}
	}
	twice := limbs(5, 7)
	for name, call := range calls() {
		for _, n := range call(twice, twice) {
			scribble(n)
		}
		if !slices.Equal(twice.D, []uint32{5, 7}) {
			t.Fatalf("%s of a number and itself changes it", name)
		}
	}
}

// R4, R5: what was answered once is not told anew by a list that was changed since.
func TestNothingKept(t *testing.T) {
	a := limbs(5, 7)
	sum := Add(a, a)
	a.D[0] = 9
	if !equal(sum, limbs(10, 14)) || !equal(Add(a, a), limbs(18, 14)) {
		t.Error("Add keeps a list")
	}
	one, _ := Parse("123456789012345678901234567890")
	scribble(one)
	two, _ := Parse("123456789012345678901234567890")
	if Text(two) != "123456789012345678901234567890" {
		t.Error("Parse answers a list twice")
	}
	low := Of(77)
	scribble(low)
	if !equal(Of(77), limbs(77)) {
		t.Error("Of answers a list twice")
	}
}

func FuzzReckon(f *testing.F) {
	f.Add(true, []byte{1, 2, 3, 4, 5, 6, 7, 8, 9, 10, 11, 12}, false, []byte{255, 255, 255, 255, 0, 0, 0, 128})
	f.Fuzz(func(t *testing.T, aNeg bool, a []byte, bNeg bool, b []byte) {
		reckon(t, Num{Neg: aNeg, D: packed(a)}, Num{Neg: bNeg, D: packed(b)})
	})
}

// packed makes limbs of bytes, four each.
func packed(b []byte) []uint32 {
	var d []uint32
	for len(b) >= 4 {
		d = append(d, uint32(b[0])|uint32(b[1])<<8|uint32(b[2])<<16|uint32(b[3])<<24)
		b = b[4:]
	}
	return d
}

func FuzzParse(f *testing.F) {
	for _, s := range []string{"0", "-0", "-12", "99999999999999999999", "1a"} {
		f.Add(s)
	}
	f.Fuzz(func(t *testing.T, s string) {
		a, e := Parse(s)
		switch {
		case e == api.OK && (Text(a) != s || !equal(a, Norm(a)) || len(a.D) > api.MaxLimbs):
			t.Errorf("Parse(%q) = %v", s, a)
		case e != api.OK && !zero(a):
			t.Errorf("Parse(%q) = %v beside %v", s, a, e)
		}
	})
}
