// Package word packs the words that a heap is made of: see DOC.md, chapter 1.
package word

import (
	"tenement/api"
)

// Tags: they count from 0 on, as the lowest bits of a word hold them.
const (
	Small = iota
	Atom
	Pid
	Ref
	Nil
	Ptr
	Head
	Link
)

// Kinds of objects: they count from 0 on, as the lowest bits of a header's value hold them.
const (
	Cons = iota
	Tuple
	Big
	Bin
)

// How wide the parts of a word are, and of a header's value.
const (
	tagBits  = 4
	kindBits = 2
	negBits  = 1
	sizeBits = 20
	treeBits = 20
)

// Where the parts of a header's value begin; at headEnd begin the bits that stay 0.
const (
	negShift  = kindBits
	sizeShift = negShift + negBits
	treeShift = sizeShift + sizeBits
	headEnd   = treeShift + treeBits
)

// One past the greatest value: one of a value's bits is its sign.
const valueEnd = 1 << (64 - tagBits - 1)

// Header is what the first word of an object tells of it.
type Header struct {
	Kind, Size, Tree int
	Neg              bool
}

// Of packs a tag and a value; what can't be packed is Nil with the value 0.
func Of(tag int, n int64) api.Word {
	if tag < Small || tag > Link || !Fits(n) {
		return pack(Nil, 0)
	}
	return pack(tag, n)
}

// Tag answers the lowest bits as they are: from 8 on they are no tag, but a word may have them.
func Tag(w api.Word) int {
	return int(part(w, 0, tagBits))
}

// Value shifts a number with a sign, so that the highest bit spreads.
func Value(w api.Word) int64 {
	return int64(w) >> tagBits
}

// Fits tells whether n is a value that a word can have.
func Fits(n int64) bool {
	return -valueEnd <= n && n < valueEnd
}

// Make packs a header; one with a field that has no room is Nil with the value 0.
func Make(h Header) api.Word {
	if h.Kind < Cons || h.Kind > Bin || !inBits(h.Size, sizeBits) || !inBits(h.Tree, treeBits) {
		return pack(Nil, 0)
	}
	v := int64(h.Kind) | int64(h.Size)<<sizeShift | int64(h.Tree)<<treeShift
	if h.Neg {
		v |= 1 << negShift
	}
	return pack(Head, v)
}

// Read unpacks a header; false for a word that Make never answers as one.
func Read(w api.Word) (Header, bool) {
	v := w >> tagBits
	if Tag(w) != Head || v>>headEnd != 0 {
		return Header{}, false
	}
	return Header{
		Kind: int(part(v, 0, kindBits)),
		Size: int(part(v, sizeShift, sizeBits)),
		Tree: int(part(v, treeShift, treeBits)),
		Neg:  part(v, negShift, negBits) == 1,
	}, true
}

// Fields goes by the Kind alone: a Cons has its head and its tail, whatever its Size says.
func Fields(h Header) int {
	switch h.Kind {
	case Cons:
		return 2
	case Tuple:
		return h.Size
	}
	return 0
}

// pack wants a tag that is one and a value that fits: else they would run into one another.
func pack(tag int, n int64) api.Word {
	return api.Word(n)<<tagBits | api.Word(tag)
}

// part cuts out the bits from shift on.
func part(w api.Word, shift, bits uint) api.Word {
	return w >> shift & (1<<bits - 1)
}

// inBits tells whether n, without a sign, has room in so many bits.
func inBits(n int, bits uint) bool {
	return 0 <= n && n < 1<<bits
}
