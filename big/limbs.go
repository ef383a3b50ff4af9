package big

import (
	"math/bits"
	"slices"
)

// limbBits is the width of a limb. Limbs are reckoned with in 64 bits, whose upper half carries into the next.
const limbBits = 32

// sum is a and b together, with room for what is carried last.
func sum(a, b []uint32) []uint32 {
	if len(a) < len(b) {
		a, b = b, a
	}
	out := make([]uint32, len(a)+1)
	carry := uint64(0)
	for i, limb := range a {
		carry += uint64(limb)
		if i < len(b) {
			carry += uint64(b[i])
		}
		out[i] = uint32(carry)
		carry >>= limbBits
	}
	out[len(a)] = uint32(carry)
	return out
}

// difference is a without b, which is not above a.
func difference(a, b []uint32) []uint32 {
	out := make([]uint32, len(a))
	borrow := uint64(0)
	for i, limb := range a {
		if i < len(b) {
			borrow += uint64(b[i])
		}
		left := uint64(limb) - borrow
		out[i] = uint32(left)
		borrow = below(left)
	}
	return out
}

// below is 1 of a difference that has wrapped round, else 0.
func below(left uint64) uint64 {
	return left >> 63
}

// product is a times b.
func product(a, b []uint32) []uint32 {
	out := make([]uint32, len(a)+len(b))
	for i, x := range a {
		carry := uint64(0)
		for j, y := range b {
			carry += uint64(x)*uint64(y) + uint64(out[i+j]) // at most 2^64 - 1
			out[i+j] = uint32(carry)
			carry >>= limbBits
		}
		out[i+len(b)] = uint32(carry)
	}
	return out
}

// grown is d times a factor, with a limb added, written over d.
func grown(d []uint32, times, more uint32) []uint32 {
	carry := uint64(more)
	for i, limb := range d {
		carry += uint64(limb) * uint64(times)
		d[i] = uint32(carry)
		carry >>= limbBits
	}
	if carry > 0 {
		d = append(d, uint32(carry))
	}
	return d
}

// shrink divides d, in its place, by a limb that is not 0, and answers the rest.
func shrink(d []uint32, by uint32) uint32 {
	rest := uint64(0)
	for i := len(d) - 1; i >= 0; i-- {
		rest = rest<<limbBits | uint64(d[i])
		d[i] = uint32(rest / uint64(by))
		rest %= uint64(by)
	}
	return uint32(rest)
}

// divide is how often b, which is not 0, goes into a, and the rest; neither has noughts at the end.
func divide(a, b []uint32) ([]uint32, []uint32) {
	switch {
	case compare(a, b) < 0:
		return nil, slices.Clone(a)
	case len(b) == 1:
		q := slices.Clone(a)
		return q, []uint32{shrink(q, b[0])}
	}
	return divideLong(a, b)
}

// divideLong divides limb by limb from the top, as by hand; b has two limbs or more, and is not above a.
func divideLong(a, b []uint32) ([]uint32, []uint32) {
	n := len(b)
	// With the divisor's highest bit set, a guess from few limbs is nearly right.
	by := bits.LeadingZeros32(b[n-1])
	rest, of := raised(a, by), raised(b, by)[:n]
	q := make([]uint32, len(a)-n+1)
	for i := len(q) - 1; i >= 0; i-- {
		part := rest[i : i+n+1]
		times := guess(part, of)
		if takeTimes(part, of, times) {
			times--
			giveBack(part, of)
		}
		q[i] = uint32(times)
	}
	rest = rest[:n]
	lower(rest, by)
	return q, rest
}

// raised is d shifted up by less than a limb, with one limb more.
func raised(d []uint32, by int) []uint32 {
	out := make([]uint32, len(d)+1)
	carry := uint64(0)
	for i, limb := range d {
		carry |= uint64(limb) << by
		out[i] = uint32(carry)
		carry >>= limbBits
	}
	out[len(d)] = uint32(carry)
	return out
}

// lower shifts d down, in its place, by less than a limb.
func lower(d []uint32, by int) {
	carry := uint64(0)
	for i := len(d) - 1; i >= 0; i-- {
		carry = carry<<limbBits | uint64(d[i])
		d[i] = uint32(carry >> by)
	}
}

// guess tells from the highest limbs how often of goes into part, which has one limb more; at times it is 1 too great.
func guess(part, of []uint32) uint64 {
	const last = 1<<limbBits - 1
	n := len(of)
	top, next := uint64(of[n-1]), uint64(of[n-2])
	ahead := uint64(part[n])<<limbBits | uint64(part[n-1])
	times, left := ahead/top, ahead%top
	for left <= last && (times > last || times*next > left<<limbBits|uint64(part[n-2])) {
		times--
		left += top
	}
	return times
}

// takeTimes takes of so often from part, in its place, and tells whether that was once too often. Part's highest limb stays as it was: it would be 0, and nobody looks at it again.
func takeTimes(part, of []uint32, times uint64) bool {
	carry := uint64(0)
	for i, limb := range of {
		carry += times * uint64(limb)
		left := uint64(part[i]) - uint64(uint32(carry))
		part[i] = uint32(left)
		carry = carry>>limbBits + below(left)
	}
	return carry > uint64(part[len(of)])
}

// giveBack adds of to part, in its place, but for what would be carried into its highest limb.
func giveBack(part, of []uint32) {
	carry := uint64(0)
	for i, limb := range of {
		carry += uint64(part[i]) + uint64(limb)
		part[i] = uint32(carry)
		carry >>= limbBits
	}
}
