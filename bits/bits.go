// Package bits is layer 1: floats by their bits. See shared/doc/01-bits.md.
package bits

import (
	"math"

	"tarn/api"
)

// Parts of a float's bits, as numbers.
const (
	signBit      = 0x8000000000000000
	infiniteBits = 0x7ff0000000000000 // of two magnitudes the greater one has the greater bits: only NaNs lie above
	normalBits   = 0x0010000000000000 // 2^-1022, the least normal magnitude
	leastBits    = 1
)

// Class: api.Zero .. api.NotANumber.
func Class(x float64) int {
	m := magnitudeBits(x)
	switch {
	case m == 0:
		return api.Zero
	case m < normalBits:
		return api.Subnormal
	case m < infiniteBits:
		return api.Normal
	case m == infiniteBits:
		return api.Infinite
	}
	return api.NotANumber
}

// Canon: x, but every NaN as api.QuietNaN, and -0 as +0.
func Canon(x float64) float64 {
	if isNaN(x) {
		return quietNaN()
	}
	if x == 0 {
		return 0
	}
	return x
}

// Up: the next greater float. The infinity stays, a NaN is api.QuietNaN.
func Up(x float64) float64 {
	if isNaN(x) {
		return quietNaN()
	}
	b := math.Float64bits(x)
	switch {
	case x == 0: // -0 has no lesser magnitude to go to
		return math.Float64frombits(leastBits)
	case b == infiniteBits:
		return x
	case b&signBit != 0:
		return math.Float64frombits(b - 1)
	}
	return math.Float64frombits(b + 1)
}

// Down: the next lesser float. The infinity below stays, a NaN is api.QuietNaN.
func Down(x float64) float64 {
	if isNaN(x) { // turning the sign of the one NaN would make another one
		return quietNaN()
	}
	return -Up(-x)
}

// Ulp: the step from x's magnitude to the next greater one; the infinity where there is none.
func Ulp(x float64) float64 {
	if isNaN(x) {
		return quietNaN()
	}
	m := math.Float64frombits(magnitudeBits(x))
	above := Up(m)
	if above == m { // the infinity, less which it is a NaN
		return m
	}
	return above - m
}

// Order: -1, 0 or 1 in the order of all floats: -NaN, -inf .. -0, +0 .. inf, NaN.
func Order(a float64, b float64) int {
	p, q := place(a), place(b)
	switch {
	case p < q:
		return -1
	case p > q:
		return 1
	}
	return 0
}

// Max: the greater; a NaN if one is; +0 above -0.
func Max(a float64, b float64) float64 {
	if isNaN(a) || isNaN(b) {
		return quietNaN()
	}
	if Order(a, b) < 0 {
		return b
	}
	return a
}

// Min: the lesser; a NaN if one is; -0 below +0.
func Min(a float64, b float64) float64 {
	if isNaN(a) || isNaN(b) {
		return quietNaN()
	}
	if Order(a, b) > 0 {
		return b
	}
	return a
}

// Between: the rank of b less that of a, the noughts being one; false if one is a NaN or the difference is no int64.
func Between(a float64, b float64) (int64, bool) {
	if isNaN(a) || isNaN(b) {
		return 0, false
	}
	from, to := rank(a), rank(b)
	d := to - from
	if (d >= 0) != (to >= from) { // a difference that wrapped round has the wrong sign
		return 0, false
	}
	return d, true
}

func isNaN(x float64) bool {
	return magnitudeBits(x) > infiniteBits
}

func quietNaN() float64 {
	return math.Float64frombits(api.QuietNaN)
}

func magnitudeBits(x float64) uint64 {
	return math.Float64bits(x) &^ signBit
}

// place: where x stands in the order of all bit patterns. With the sign bit greater bits stand further ahead, so all are turned.
func place(x float64) uint64 {
	b := math.Float64bits(x)
	if b&signBit != 0 {
		return ^b
	}
	return b | signBit
}

// rank of a float that is no NaN.
func rank(x float64) int64 {
	m := int64(magnitudeBits(x))
	if math.Float64bits(x)&signBit != 0 {
		return -m
	}
	return m
}
