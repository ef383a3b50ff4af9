package runes

import (
	"bytes"
	"cmp"
	"regexp"
	"slices"
	"strconv"
	"strings"
	"testing"
	"unicode/utf8"

	"tenement/api"
)

// wrong are texts that are not well-formed: a lone byte, one cut short, one too long for its number, half of a pair, one past the last sign.
func wrong() []string {
	return []string{"\xff", "\x80", "\xc3", "a\xe2\x82", "\xf0\x9f\x98", "\xc0\xaf", "\xe0\x80\xaf", "\xed\xa0\x80", "\xf4\x90\x80\x80", "é\xc3b", "ok\xfe"}
}

// right are texts that are well-formed, and how many signs each has.
func right() map[string]int {
	return map[string]int{
		"": 0, "a": 1, "ok": 2, "It's": 4, "aé": 2, "€": 1, "😀": 1, "aé€😀": 4,
		"\x00": 1, "\x7f": 1, "\u0080": 1, "\u07ff": 1, "\u0800": 1, "\ud7ff": 1, "\ue000": 1, "\ufffd": 1, "\uffff": 1, "\U00010000": 1, "\U0010ffff": 1,
		strings.Repeat("é", api.MaxAtom+1): api.MaxAtom + 1,
	}
}

// words are all texts of at most that many pieces.
func words(pieces []string, most int) []string {
	all, last := []string{""}, []string{""}
	for range most {
		var next []string
		for _, w := range last {
			for _, p := range pieces {
				next = append(next, w+p)
			}
		}
		all, last = append(all, next...), next
	}
	return all
}

func number(r rune) string { return strconv.QuoteRune(r) }

// P2.1 Valid and Count: of well-formed texts, of each sign that there is, and of texts that are not.
func TestValidAndCount(t *testing.T) {
	for s, n := range right() {
		if !Valid(s) || Count(s) != n {
			t.Errorf("%q: Valid %v, Count %d, want true, %d", s, Valid(s), Count(s), n)
		}
	}
	for _, s := range wrong() {
		if Valid(s) || Count(s) != -1 {
			t.Errorf("%q: Valid %v, Count %d, want false, -1", s, Valid(s), Count(s))
		}
	}
	for r := rune(0); r <= utf8.MaxRune; r++ {
		if !utf8.ValidRune(r) {
			continue
		}
		if s := string(r); !Valid(s) || Count(s+"a"+s) != 3 {
			t.Fatalf("%s is not one sign", number(r))
		}
	}
}

// P2.1 Plain: which sign may be the first, which a further one.
func TestPlain(t *testing.T) {
	for r := rune(0); r < 0x3000; r++ {
		s := string(r)
		first := strings.Contains("abcdefghijklmnopqrstuvwxyz", s)
		further := first || strings.Contains("ABCDEFGHIJKLMNOPQRSTUVWXYZ0123456789_@", s)
		if Plain(s) != first {
			t.Errorf("Plain(%q) is %v", s, Plain(s))
		}
		if Plain("b"+s) != further || Plain("b"+s+"b") != further {
			t.Errorf("Plain(%q) is %v, Plain(%q) is %v, want %v", "b"+s, Plain("b"+s), "b"+s+"b", Plain("b"+s+"b"), further)
		}
	}
	for _, s := range append(wrong(), "", "a b", "a\xff", "a\ufffd", "ab'") {
		if Plain(s) {
			t.Errorf("%q is Plain", s)
		}
	}
	for _, s := range []string{"z", "a_B9@", "zzZ", strings.Repeat("a", api.MaxAtom+1)} {
		if !Plain(s) {
			t.Errorf("%q is not Plain", s)
		}
	}
}

// P2.2 Quote: the chapter's examples, the edges of what is written by an escape, and texts that are not Valid.
func TestQuote(t *testing.T) {
	for s, want := range map[string]string{
		"ok": "ok", "a_B9@": "a_B9@", "It's": `'It\'s'`, "": "''", "A": "'A'", "a b": "'a b'", "9": "'9'", "_a": "'_a'", "@": "'@'",
		`\`: `'\\'`, `a\'b`: `'a\\\'b'`, "\"": `'"'`,
		"\x00": `'\x0;'`, "\x09": `'\x9;'`, "\n": `'\n'`, "\x0b": `'\xb;'`, "\r": `'\xd;'`, "\x1f": `'\x1f;'`, " ": "' '", "~": "'~'", "\x7f": `'\x7f;'`, "\u0080": "'\u0080'",
		"é": "'é'", "€": "'€'", "😀": "'😀'", "aé\n😀": `'aé\n😀'`, "\ufffd": "'\ufffd'",
	} {
		if got := Quote(s); got != want {
			t.Errorf("Quote(%q) is %s, want %s", s, got, want)
		}
	}
	for _, s := range wrong() {
		if got := Quote(s); got != "" {
			t.Errorf("Quote(%q) is %q", s, got)
		}
	}
	long := strings.Repeat("é", api.MaxAtom+1)
	if Quote(long) != "'"+long+"'" {
		t.Error("Quote refuses a long name")
	}
}

// reading is what Unquote answers.
type reading struct {
	text string
	size int
	e    api.Errno
}

func read(s string) reading {
	text, size, e := Unquote(s)
	return reading{text, size, e}
}

func refused(e api.Errno) reading { return reading{e: e} }

func readAll(t *testing.T, want map[string]reading) {
	t.Helper()
	for s, w := range want {
		if got := read(s); got != w {
			t.Errorf("Unquote(%q) is %+v, want %+v", s, got, w)
		}
	}
}

// P2.2 Unquote: names with what stands behind them.
func TestUnquoteNames(t *testing.T) {
	readAll(t, map[string]reading{
		"ok": {"ok", 2, 0}, "ab c": {"ab", 2, 0}, "aB_9@-": {"aB_9@", 5, 0}, "aé": {"a", 1, 0}, "a'b'": {"a", 1, 0}, "a\n": {"a", 1, 0}, "a\x00": {"a", 1, 0}, "a\ufffd": {"a", 1, 0},
		"''": {"", 2, 0}, "'''": {"", 2, 0}, "'ok'": {"ok", 4, 0}, "'a' 'b'": {"a", 3, 0}, "'ab'cd": {"ab", 4, 0},
		`'It\'s'x`: {"It's", 7, 0}, `'\\'`: {`\`, 4, 0}, `'\n'`: {"\n", 4, 0}, `'\\\'\n'`: {"\\'\n", 8, 0}, `'\\n'`: {`\n`, 5, 0},
		"'é'é": {"é", 4, 0}, "'€'": {"€", 5, 0}, "'😀'\x01": {"😀", 6, 0}, "' ~\"'": {" ~\"", 5, 0}, "'\u0080'": {"\u0080", 4, 0}, "'\ufffd'": {"\ufffd", 5, 0},
	})
}

// P2.2 Unquote: escapes by a number, of one digit and of six, small letters and great, up to the last sign.
func TestUnquoteNumbers(t *testing.T) {
	readAll(t, map[string]reading{
		`'\x0;'`: {"\x00", 6, 0}, `'\x1;'`: {"\x01", 6, 0}, `'\xa;'`: {"\n", 6, 0}, `'\xA;'`: {"\n", 6, 0}, `'\x1f;'`: {"\x1f", 7, 0}, `'\x1F;'`: {"\x1f", 7, 0}, `'\x7f;'`: {"\x7f", 7, 0},
		`'\x27;'`: {"'", 7, 0}, `'\x5c;'`: {`\`, 7, 0}, `'\x41;b'`: {"Ab", 8, 0}, `'\x000041;'`: {"A", 11, 0}, `'\x000000;'`: {"\x00", 11, 0},
		`'\xe9;'`: {"é", 7, 0}, `'\xEFCDAB'`: refused(api.ErrForm), `'\xabcd;'`: {"\uabcd", 9, 0}, `'\xABCD;'`: {"\uabcd", 9, 0}, `'\xef;\x9;'`: {"\u00ef\t", 11, 0}, `'\xEF;'`: {"\u00ef", 7, 0},
		`'\xd7ff;'`: {"\ud7ff", 9, 0}, `'\xe000;'`: {"\ue000", 9, 0}, `'\xfffd;'`: {"\ufffd", 9, 0}, `'\x10ffff;'`: {"\U0010ffff", 11, 0}, `'\x10FFFF;'`: {"\U0010ffff", 11, 0}, `'\x01f600;'`: {"😀", 11, 0},
	})
	for r := rune(0); r <= utf8.MaxRune; r += 7 {
		s := "'\\x" + strconv.FormatInt(int64(r), 16) + ";'"
		want := refused(api.ErrForm)
		if utf8.ValidRune(r) {
			want = reading{string(r), len(s), 0}
		}
		if got := read(s); got != want {
			t.Fatalf("Unquote(%q) is %+v, want %+v", s, got, want)
		}
	}
}

// P2.2 Unquote: what is refused, and as what.
func TestUnquoteRefuses(t *testing.T) {
	short, form := refused(api.ErrShort), refused(api.ErrForm)
	readAll(t, map[string]reading{
		"'": short, "'ab": short, `'\`: short, `'a\`: short, `'\'`: short, `'\\`: short, `'\n`: short, `'\x`: short, `'\x4`: short, `'\x123456`: short, `'\x41;`: short, "'é": short,
		"": form, "A": form, "9": form, "_": form, "@": form, " a": form, "é": form, "\n": form, `\n`: form, `"a"`: form, "\ufffd": form,
		`'\q'`: form, `'\N'`: form, `'\X41;'`: form, `'\é'`: form, "'\\\n'": form, `'\0'`: form, `'\;'`: form, `'\ '`: form, `'\"'`: form,
		`'\x;'`: form, `'\x'`: form, `'\x4'`: form, `'\xg;'`: form, `'\xG;'`: form, `'\x/;'`: form, `'\x:;'`: form, `'\x@;'`: form, "'\\x`;'": form, `'\x-1;'`: form, `'\x4 1;'`: form, `'\x4é;'`: form, `'\x４;'`: form,
		`'\x1234567;'`: form, `'\x0000041;'`: form, `'\xd800;'`: form, `'\xdfff;'`: form, `'\xDFFF;'`: form, `'\x110000;'`: form, `'\xffffff;'`: form, `'\xFFFFFF;'`: form,
		"'a\x00'": form, "'\x09'": form, "'\n'": form, "'\r'": form, "'\x1f'": form, "'\x7f'": form, "'\\x4\n;'": form,
	})
	for r := rune(0); r < 0x110; r++ {
		want := reading{string(r), 2 + utf8.RuneLen(r), 0}
		switch {
		case r < 32 || r == 127:
			want = form
		case r == '\'':
			want = reading{"", 2, 0}
		case r == '\\':
			want = short // the quote behind it is escaped
		}
		if got := read("'" + string(r) + "'"); got != want {
			t.Errorf("the sign %d between quotes: %+v, want %+v", r, got, want)
		}
	}
}

// P2.2 Unquote: Valid first, also where only what stands behind the name is not.
func TestUnquoteWantsValid(t *testing.T) {
	for _, w := range wrong() {
		for _, s := range []string{w, "ok " + w, "'ok'" + w, "'" + w + "'", "'" + w, `'\` + w, `'\x4` + w, `'\q'` + w, strings.Repeat("a", api.MaxAtom+1) + " " + w, "'" + strings.Repeat("a", api.MaxAtom+1) + "'" + w} {
			if got := read(s); got != refused(api.ErrForm) {
				t.Errorf("Unquote(%q) is %+v", s, got)
			}
		}
	}
}

// P2.2 Unquote: at MaxAtom signs all is well, one more is too long, whatever bytes or escapes a sign takes.
func TestUnquoteLength(t *testing.T) {
	for _, sign := range []string{"a", "é", "€", "😀", `\'`, `\n`, `\x41;`} {
		most := strings.Repeat(sign, api.MaxAtom)
		if got := read("'" + most + "'b"); got.e != api.OK || got.size != len(most)+2 || Count(got.text) != api.MaxAtom {
			t.Errorf("MaxAtom times %s: %d, size %d", sign, got.e, got.size)
		}
		if got := read("'" + most + sign + "'"); got != refused(api.ErrLong) {
			t.Errorf("one more of %s: %+v", sign, got)
		}
	}
	most := "a" + strings.Repeat("B", api.MaxAtom-1)
	for _, behind := range []string{"", " ", "é", "'", "-a"} {
		if got := read(most + behind); got != (reading{most, len(most), 0}) {
			t.Errorf("MaxAtom plain signs, then %q: %+v", behind, got)
		}
		if got := read(most + "9" + behind); got != refused(api.ErrLong) {
			t.Errorf("one plain sign more, then %q: %+v", behind, got)
		}
	}
}

// P2.2 Unquote: sign by sign, the first that can't be is what is told.
func TestUnquoteOrder(t *testing.T) {
	most := "'" + strings.Repeat("a", api.MaxAtom)
	short, long, form := refused(api.ErrShort), refused(api.ErrLong), refused(api.ErrForm)
	readAll(t, map[string]reading{
		`'\q`: form, "'a\x01": form, `'\xg`: form, `'\x;`: form, `'\xd800;`: form, `'\x1234567`: form, `'\xd800`: short, "'\x01\\": form,
		most: short, most + `\`: short, most + `\x4`: short, most + `\q'`: form, most + "\x01'": form, most + `\xd800;'`: form,
		most + "a": long, most + "aa": long, most + `\n`: long, most + `a\q'`: long, most + "a\x01": long, most + `a\`: long,
		"'\x01" + most[1:] + "a'": form, `'\q` + most[1:] + "a": form,
	})
}

// P2.2 Unquote: on all short texts of signs that matter, a name is read just where the form of names, written anew here, fits.
func TestUnquoteAgainstForm(t *testing.T) {
	names := regexp.MustCompile(`^(?:[a-z][a-zA-Z0-9_@]*|'(?:[^'\\\x00-\x1f\x7f]|\\['\\n]|\\x[0-9a-fA-F]{1,6};)*')`)
	for _, s := range words([]string{"'", `\`, "x", "n", ";", "4", "F", "é", "\n", "\x7f"}, 5) {
		text, size, e := Unquote(s)
		if want := len(names.FindString(s)); size != want || (e == api.OK) != (want > 0) || e != api.OK && text != "" {
			t.Fatalf("Unquote(%q) is %q, %d, %d, want size %d", s, text, size, e, want)
		}
		if e == api.OK && read(Quote(text)).text != text {
			t.Fatalf("%q, read from %q, is not read back", text, s)
		}
	}
}

// P2.3 Less: the chapter's example, beginnings, signs of all lengths, and bytes where one is not Valid.
func TestLess(t *testing.T) {
	rising := []string{"", "\x00", "A", "a", "a\x00", "aa", "ab", "aé", "b", "z", "\x7f", "\u0080", "é", "ée", "éé", "\u07ff", "\u0800", "€", "\ud7ff", "\ue000", "\ufffd", "\uffff", "\U00010000", "😀", "\U0010ffff"}
	for i, a := range rising {
		for j, b := range rising {
			if got := Less(a, b); got != cmp.Compare(i, j) {
				t.Errorf("Less(%q, %q) is %d", a, b, got)
			}
		}
	}
	all := append(wrong(), rising...)
	for _, a := range all {
		for _, b := range all {
			want := slices.Compare([]rune(a), []rune(b))
			if !utf8.ValidString(a) || !utf8.ValidString(b) {
				want = bytes.Compare([]byte(a), []byte(b))
			}
			if got := Less(a, b); got != want {
				t.Errorf("Less(%q, %q) is %d, want %d", a, b, got, want)
			}
		}
	}
	if Less("\xff", "\xfe") != 1 || Less("é\xff", "é") != 1 || Less("\xef\xbf", "\ufffd") != -1 {
		t.Error("texts that are not Valid are not taken by bytes")
	}
}

// P2.3 Reverse: signs, not bytes.
func TestReverse(t *testing.T) {
	for s, want := range map[string]string{"": "", "a": "a", "ab": "ba", "aéb": "béa", "é€😀": "😀€é", "\x00\n'": "'\n\x00", "\ufffda": "a\ufffd"} {
		if got := Reverse(s); got != want {
			t.Errorf("Reverse(%q) is %q, want %q", s, got, want)
		}
	}
	for s, n := range right() {
		if got := Reverse(s); Count(got) != n || Reverse(got) != s {
			t.Errorf("Reverse(%q) is %q", s, got)
		}
	}
	for _, s := range wrong() {
		if got := Reverse(s); got != "" {
			t.Errorf("Reverse(%q) is %q", s, got)
		}
	}
}

// P2.4: Unquote of Quote is the text, of every sign and of all short texts, whatever stands behind it.
func TestUnquoteOfQuote(t *testing.T) {
	texts := words([]string{"a", "B", "'", `\`, "x", ";", "\n", "\x00", "\x7f", "é", "😀"}, 4)
	for s := range right() {
		texts = append(texts, s)
	}
	for r := rune(0); r <= utf8.MaxRune; r++ {
		if utf8.ValidRune(r) {
			texts = append(texts, string(r))
		}
	}
	for _, sign := range []string{"a", "'", "\x01", "\n", "😀"} {
		texts = append(texts, strings.Repeat(sign, api.MaxAtom), strings.Repeat(sign, api.MaxAtom+1))
	}
	for _, s := range texts {
		name := Quote(s)
		want := reading{s, len(name), 0}
		if Count(s) > api.MaxAtom {
			want = refused(api.ErrLong)
		}
		for _, behind := range []string{"", " ", "-é'"} {
			if got := read(name + behind); got != want {
				t.Fatalf("Unquote(%q) is %+v, want %+v", name+behind, got, want)
			}
		}
	}
}

// R5: the same arguments, the same answers, whatever was asked between.
func TestAnswersHangOnArguments(t *testing.T) {
	for range 2 {
		for _, s := range wrong() {
			read("'" + s)
		}
		if read(`'\x4`) != refused(api.ErrShort) || read("'a'") != (reading{"a", 3, 0}) || Quote("a b") != "'a b'" || Less("a", "b") != -1 {
			t.Error("an answer hangs on the calls ahead of it")
		}
	}
}

// R1: nothing panics, on any text.
func FuzzAll(f *testing.F) {
	for _, s := range append(wrong(), "", "ok", `'It\'s'x`, `'\x10ffff;'`, `'\x`, "'é") {
		f.Add(s, "a")
	}
	f.Fuzz(func(t *testing.T, s, other string) {
		text, size, e := Unquote(s)
		if e != api.OK && (text != "" || size != 0) || size > len(s) {
			t.Errorf("Unquote(%q) is %q, %d, %d", s, text, size, e)
		}
		if Less(s, other) != strings.Compare(s, other) || Less(other, s) != -Less(s, other) {
			t.Errorf("Less(%q, %q) is %d", s, other, Less(s, other))
		}
		if Valid(s) && Reverse(Reverse(s)) != s || Plain(s) && Quote(s) != s || Valid(s) == (Count(s) == -1) {
			t.Errorf("%q: Reverse %q, Quote %q, Count %d", s, Reverse(s), Quote(s), Count(s))
		}
	})
}
