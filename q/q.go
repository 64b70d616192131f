// Package q: numbers with a point, as whole ones: see doc/01-q.md.
package q

import (
	"math/bits"

	"mutoscope/api"
)

// pointBits is how far One lies to the left of 1.
const pointBits = 16

// Clamp holds a between lo and hi; lo is asked first, so it wins over a hi below it.
func Clamp(a, lo, hi int64) int64 {
	if a < lo {
		return lo
	}
	if a > hi {
		return hi
	}
	return a
}

// Hold keeps a number where sums of two, and quotients, go into 64 bits.
func Hold(a int64) int64 { return Clamp(a, -api.Great, api.Great) }

// Place keeps a place where the squares of differences go into 64 bits.
func Place(a int64) int64 { return Clamp(a, -api.Far, api.Far) }

// Add is the sum.
func Add(a, b int64) int64 { return Hold(Hold(a) + Hold(b)) }

// Mul is the product by One, rounded down.
func Mul(a, b int64) int64 {
	hi, lo := wideMul(Hold(a), Hold(b))
	// Beyond 64 bits the answer is past Great already, and the shift below would lose its top.
	if hi > 0 {
		return api.Great
	}
	if hi < -1 {
		return -api.Great
	}
	return Hold(hi<<(64-pointBits) | int64(lo>>pointBits))
}

// Div is One times a by b, rounded down; 0 where b is 0.
func Div(a, b int64) int64 {
	a, b = Hold(a), Hold(b)
	if b == 0 {
		return 0
	}
	return Hold(divDown(a<<pointBits, b))
}

// Root is the greatest number whose square is at most a; 0 where a is below 0.
func Root(a int64) int64 {
	a = Hold(a)
	if a < 0 {
		return 0
	}
	// n n by One is at most a just where n n is at most One times a.
	return Hold(wholeRoot(uint64(a) << pointBits))
}

// Hyp is how long the way from 0, 0 to x, y is, rounded down to a whole number.
func Hyp(x, y int64) int64 {
	// Twice Far, not Far: what comes in is the difference of two places.
	x, y = Clamp(x, -2*api.Far, 2*api.Far), Clamp(y, -2*api.Far, 2*api.Far)
	return Hold(wholeRoot(uint64(x*x + y*y)))
}

// Mid goes from a towards b by the share t.
func Mid(a, b, t int64) int64 {
	// Held ahead of the minus: the least of all int64 has no opposite.
	a = Hold(a)
	return Add(a, Mul(Add(b, -a), t))
}

// wideMul is the whole product in 128 bits, as its upper half (with the sign) and its lower one.
func wideMul(a, b int64) (int64, uint64) {
	hi, lo := bits.Mul64(uint64(a), uint64(b))
	// A number below 0 was taken as 2^64 more than it is; that much of the other one is too much.
	if a < 0 {
		hi -= uint64(b)
	}
	if b < 0 {
		hi -= uint64(a)
	}
	return int64(hi), lo
}

// divDown is a by b, rounded down; b is not 0.
func divDown(a, b int64) int64 {
	n, rest := a/b, a%b
	// Go rounds towards 0, which is up where the exact quotient is below 0.
	if rest != 0 && (rest < 0) != (b < 0) {
		n--
	}
	return n
}

// wholeRoot is the greatest whole number whose square is at most n: a bit of it at a time, so that no square leaves 64 bits.
func wholeRoot(n uint64) int64 {
	if n == 0 {
		return 0
	}
	var root uint64
	for bit := uint64(1) << ((bits.Len64(n) - 1) &^ 1); bit > 0; bit >>= 2 {
		step := root + bit
		root >>= 1
		if n >= step {
			n -= step
			root += bit
		}
	}
	return int64(root)
}
