package text

import (
	"strconv"
	"unicode/utf8"

	"tenement/api"
	"tenement/big"
	"tenement/runes"
)

// mark is a piece: a sign that stands between terms or behind them.
type mark rune

// tail is a piece: what stands behind an item of a list, whose text is not that of the term alone.
type tail struct {
	rest api.Term
}

// printer writes a term that may be. It keeps its own stack, so that deep terms need no deep calls.
type printer struct {
	out     []byte
	waiting []piece // terms, tails and marks, the last is written first
}

// next writes the next piece, but for its parts, which it leaves waiting.
func (p *printer) next() {
	last := len(p.waiting) - 1
	at := p.waiting[last]
	p.waiting = p.waiting[:last]
	if m, ok := at.(mark); ok {
		p.sign(rune(m))
	} else if l, ok := at.(tail); ok {
		p.behind(l.rest)
	} else if t, ok := at.(api.Term); ok {
		p.term(t)
	}
}

// wait leaves a piece for later, ahead of those that wait already.
func (p *printer) wait(at piece) {
	p.waiting = append(p.waiting, at)
}

func (p *printer) sign(sign rune) {
	p.out = utf8.AppendRune(p.out, sign)
}

func (p *printer) text(s string) {
	p.out = append(p.out, s...)
}

func (p *printer) number(n int) {
	p.out = strconv.AppendInt(p.out, int64(n), 10)
}

func (p *printer) term(t api.Term) {
	switch t.Kind {
	case api.Int:
		p.text(big.Text(big.Num{Neg: t.Neg, D: t.D}))
	case api.Atom:
		p.text(runes.Quote(t.Name))
	case api.Ref:
		p.sign('#')
		p.number(t.N)
	case api.Pid:
		p.sign('<')
		p.number(t.N)
		p.sign('>')
	case api.Tuple:
		p.tuple(t.L)
	case api.Nil:
		p.text("[]")
	case api.Cons:
		p.sign('[')
		p.cons(t)
	case api.Bin:
		p.bin(t.B)
	}
}

// tuple writes the sign that begins it; its items wait, the first as the next piece.
func (p *printer) tuple(items []api.Term) {
	p.sign('{')
	p.wait(mark('}'))
	for i := len(items) - 1; i >= 0; i-- {
		p.wait(items[i])
		if i > 0 {
			p.wait(mark(','))
		}
	}
}

// cons leaves a head and what stands behind it waiting.
func (p *printer) cons(t api.Term) {
	p.wait(tail{t.L[1]})
	p.wait(t.L[0])
}

// behind goes on with a list's next item, or ends the list.
func (p *printer) behind(t api.Term) {
	switch t.Kind {
	case api.Cons:
		p.sign(',')
		p.cons(t)
	case api.Nil:
		p.sign(']')
	default:
		p.sign('|')
		p.wait(mark(']'))
		p.wait(t)
	}
}

func (p *printer) bin(b []byte) {
	p.text("<<")
	for i, x := range b {
		if i > 0 {
			p.sign(',')
		}
		p.number(int(x))
	}
	p.text(">>")
}
