package text

import (
	"unicode/utf8"

	"tenement/api"
	"tenement/big"
	"tenement/runes"
	"tenement/term"
)

const (
	maxNumber = 1 << 30 // the greatest number of a Pid, a Ref
	maxByte   = 255
	// maxName is how many bytes a name takes at most as it is written: the quotes, and five for a sign that is an escape, as \x1f;
	maxName = 2 + 5*api.MaxAtom
)

// row is a piece: a Tuple or a list, read up to where its next item begins.
type row struct {
	end   rune // the sign that ends it
	items []api.Term
	bar   bool // a list's end follows, not an item
}

// reader reads a term sign by sign. It keeps its own stack, so that deep texts need no deep calls.
type reader struct {
	rest string // what is not read yet
	open []*row // rows whose items are being read, the innermost last
}

// read reads one term; false, if none stands there.
func (r *reader) read() (api.Term, bool) {
	at := r.begin()
	for {
		if w, ok := at.(*row); ok {
			r.open = append(r.open, w)
			at = r.begin()
			continue
		}
		t, ok := at.(api.Term)
		if !ok {
			return api.Term{}, false
		}
		if len(r.open) == 0 {
			return t, true
		}
		at = r.put(t)
	}
}

// begin reads a term without parts, or as far as the first part of one that has some; nil, if no term begins there.
func (r *reader) begin() piece {
	switch {
	case r.skip('['):
		return r.opened(']', term.Nil())
	case r.skip('{'):
		return r.opened('}', term.Tuple())
	case r.skip('<'):
		if r.skip('<') {
			return r.bin()
		}
		return r.pid()
	case r.skip('#'):
		return r.ref()
	case r.skip('-'):
		return r.integer("-")
	case digit(r.look()):
		return r.integer("")
	}
	return r.name()
}

// opened is the empty term, if the row ends at once, else the row.
func (r *reader) opened(end rune, empty api.Term) piece {
	if r.skip(end) {
		return empty
	}
	return &row{end: end}
}

// put takes the innermost row off and puts an item into it: the row again, if the sign behind the item says that another follows, or the whole term, if it ends there; nil of any other sign.
func (r *reader) put(t api.Term) piece {
	last := len(r.open) - 1
	w := r.open[last]
	r.open = r.open[:last]
	w.items = append(w.items, t)
	switch {
	case r.skip(w.end):
		return w.whole()
	case w.bar:
		return nil
	case r.skip(','):
		return w
	case w.end == ']' && r.skip('|'):
		w.bar = true
		return w
	}
	return nil
}

// whole is the term of a row that has ended. Its parts are put together as they are: the makers would copy them anew at each depth.
func (w *row) whole() piece {
	if w.end == '}' {
		return api.Term{Kind: api.Tuple, L: w.items}
	}
	items, t := w.items, term.Nil()
	if w.bar {
		last := len(items) - 1
		items, t = items[:last], items[last]
		if t.Kind == api.Nil || t.Kind == api.Cons { // another way to write a list that has one
			return nil
		}
	}
	for i := len(items) - 1; i >= 0; i-- {
		t = api.Term{Kind: api.Cons, L: []api.Term{items[i], t}}
	}
	return t
}

// look is the next sign, at the text's end one that begins nothing.
func (r *reader) look() rune {
	sign, _ := utf8.DecodeRuneInString(r.rest)
	return sign
}

// skip takes that sign off, if it is the next.
func (r *reader) skip(sign rune) bool {
	next, size := utf8.DecodeRuneInString(r.rest)
	if next != sign {
		return false
	}
	r.rest = r.rest[size:]
	return true
}

// digits takes off the digits that stand next.
func (r *reader) digits() string {
	size := len(r.rest)
	for at, sign := range r.rest {
		if !digit(sign) {
			size = at
			break
		}
	}
	s := r.rest[:size]
	r.rest = r.rest[size:]
	return s
}

func digit(sign rune) bool {
	return '0' <= sign && sign <= '9'
}

// integer reads an Int behind its minus, if it has one.
func (r *reader) integer(minus string) piece {
	n, e := big.Parse(minus + r.digits())
	if e != api.OK {
		return nil
	}
	return term.Num(n)
}

// number reads a number from 0 to most.
func (r *reader) number(most int64) (int, bool) {
	a, e := big.Parse(r.digits())
	if e != api.OK {
		return 0, false
	}
	n, small := big.Small(a)
	if !small || n > most {
		return 0, false
	}
	return int(n), true
}

// pid reads a Pid behind the sign that begins it.
func (r *reader) pid() piece {
	n, ok := r.number(maxNumber)
	if !ok || !r.skip('>') {
		return nil
	}
	return term.Pid(n)
}

// ref reads a Ref behind the sign that begins it.
func (r *reader) ref() piece {
	n, ok := r.number(maxNumber)
	if !ok {
		return nil
	}
	return term.Ref(n)
}

// bin reads a Bin behind the signs that begin it.
func (r *reader) bin() piece {
	var b []byte
	for !r.skip('>') {
		if len(b) > 0 && !r.skip(',') {
			return nil
		}
		n, ok := r.number(maxByte)
		if !ok {
			return nil
		}
		b = append(b, byte(n))
	}
	if !r.skip('>') {
		return nil
	}
	return term.Bin(b)
}

// name reads an Atom. A name that Quote would write otherwise is none.
func (r *reader) name() piece {
	name, size, e := runes.Unquote(r.near())
	if e != api.OK || r.rest[:size] != runes.Quote(name) {
		return nil
	}
	r.rest = r.rest[size:]
	return term.Atom(name)
}

// near is as much of the rest, in whole signs, as a name can take: Unquote looks at all that it is given, and would be slow with many names.
func (r *reader) near() string {
	size := min(len(r.rest), maxName)
	for size < len(r.rest) && !utf8.RuneStart(r.rest[size]) {
		size--
	}
	return r.rest[:size]
}
