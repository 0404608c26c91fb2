// Package wide is layer 1: see shared/doc/01-wide.md.
package wide

const (
	wordBits = 64
	halfBits = 32
	halfMask = 1<<halfBits - 1
)

// halves is a word as two digits to the base 2^32, the low one first: a
// product of two such digits, and two more of them, still fit into a word.
type halves [2]uint64

func split(a uint64) halves {
	return halves{a & halfMask, a >> halfBits}
}

func join(x halves) uint64 {
	return x[1]<<halfBits | x[0]
}

// Mul is the product of a and b.
func Mul(a, b uint64) (uint64, uint64) {
	x, y := split(a), split(b)
	t := split(x[0] * y[0])
	// Each middle product is added on its own: both at once might go round.
	u := split(x[1]*y[0] + t[1])
	v := split(x[0]*y[1] + u[0])
	return x[1]*y[1] + u[1] + v[1], join(halves{t[0], v[0]})
}

// Add is the sum modulo 2^128, and whether it is 2^128 or more.
func Add(ah, al, bh, bl uint64) (uint64, uint64, bool) {
	l, carry := addCarry(al, bl, 0)
	h, carry := addCarry(ah, bh, carry)
	return h, l, carry == 1
}

// addCarry is the sum of a, b and a carry of 0 or 1 modulo 2^64, and the next
// carry. Only one of its two sums can go round: one that did is at most
// 2^64 - 2.
func addCarry(a, b, carry uint64) (uint64, uint64) {
	s := a + b
	t := s + carry
	if s < a || t < s {
		return t, 1
	}
	return t, 0
}

// Less says whether the first is less than the second.
func Less(ah, al, bh, bl uint64) bool {
	if ah != bh {
		return ah < bh
	}
	return al < bl
}

// Div is the quotient rounded down, and what is left, if the quotient fits
// into a word, that is if h is less than d (which no h is to a d of 0).
func Div(h, l, d uint64) (uint64, uint64, bool) {
	if h >= d {
		return 0, 0, false
	}
	var q uint64
	r := h
	for range wordBits {
		// r is below d, but twice r may need a 65th bit: then it is above d,
		// and the difference, which goes round, is right again.
		out := r >> (wordBits - 1)
		r = r<<1 | l>>(wordBits-1)
		l <<= 1
		q <<= 1
		if out == 1 || r >= d {
			r -= d
			q |= 1
		}
	}
	return q, r, true
}

// MulDiv is the quotient of the product of a and b by d, rounded down, if it
// fits into a word.
func MulDiv(a, b, d uint64) (uint64, bool) {
	h, l := Mul(a, b)
	q, _, ok := Div(h, l, d)
	return q, ok
}
