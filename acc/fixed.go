package acc

import (
	"math"
	wide "math/bits"
)

// Places of a sum's bits: the bit at place k is worth 2^(k-2148), for the least product of two floats is 2^-2148.
const (
	leastFloat = 1074        // the place of 2^-1074, the last bit that a float can have
	pastFloats = 2148 + 1024 // the place of 2^1024
)

// A product is less than 2^2048, so MaxTerms of them are less than 2^2068: with those below 1 and the sign they
// have 4217 bits.
const (
	wordBits = 64
	words    = 66
)

// Parts of a float's bits.
const (
	fractionBits = 52
	fractionMask = 1<<fractionBits - 1
	exponentMask = 0x7ff
	firstBit     = 1 << fractionBits // the one that the bits of a normal float leave out
)

// fixed is a number of all those places, the lowest word first; below nothing as its two's complement.
type fixed [words]uint64

// addProduct of two finite floats that are no noughts, or take it off.
func (f *fixed) addProduct(x, y float64, off bool) {
	m, j := parts(x)
	n, k := parts(y)
	hi, lo := wide.Mul64(m, n)
	place := j + k
	s := uint(place % wordBits)
	// by 64 places nothing is left, so where s is 0 nothing goes over into the next word
	shifted := [3]uint64{lo << s, hi<<s | lo>>(wordBits-s), hi >> (wordBits - s)}
	f.add(shifted[:], place/wordBits, off)
}

// add a number whose lowest word stands at word i, or take it off. It may be f itself.
func (f *fixed) add(number []uint64, i int, off bool) {
	turn := uint64(0)
	if off {
		turn = math.MaxUint64 // f less p is ^(^f + p)
	}
	carry := uint64(0)
	for _, p := range number {
		sum, over := wide.Add64(f[i]^turn, p, carry)
		f[i], carry = sum^turn, over
		i++
	}
	for ; carry != 0 && i < words; i++ {
		sum, over := wide.Add64(f[i]^turn, 0, carry)
		f[i], carry = sum^turn, over
	}
}

// nearest: the float nearest to f; of two equally near ones the one whose last bit is 0. It may be -0.
func (f fixed) nearest() float64 {
	if f[words-1]>>(wordBits-1) == 0 {
		return f.magnitude()
	}
	var opposite fixed
	opposite.add(f[:], 0, true)
	return -opposite.magnitude()
}

// magnitude: nearest of a number that isn't below nothing.
func (f fixed) magnitude() float64 {
	top := f.top()
	if top >= pastFloats {
		return math.Inf(1)
	}
	last := max(top-fractionBits, leastFloat)
	m := f.from(last)
	rest, half := f.below(last), bit(last-1)
	switch {
	case rest == half:
		m += m & 1
	case rest.top() == last-1:
		m++
	}
	// The exponent's bits lack 1, which the first bit of m adds (a subnormal has none, nor that 1); where m was
	// rounded up beyond it, it adds 2: the next exponent, or the infinity.
	return math.Float64frombits(uint64(last-leastFloat)<<fractionBits + m)
}

// top: the place of the first bit that is set; -1 if none is.
func (f fixed) top() int {
	for i := words - 1; i >= 0; i-- {
		if f[i] != 0 {
			return i*wordBits + wide.Len64(f[i]) - 1
		}
	}
	return -1
}

// from: the bits from a place on that is below the last word's.
func (f fixed) from(place int) uint64 {
	i, s := place/wordBits, uint(place%wordBits)
	return f[i]>>s | f[i+1]<<(wordBits-s)
}

// below: f with nothing left from a place on.
func (f fixed) below(place int) fixed {
	i, s := place/wordBits, uint(place%wordBits)
	f[i] &= 1<<s - 1
	clear(f[i+1:])
	return f
}

// bit: the number whose only bit stands at a place.
func bit(place int) fixed {
	var f fixed
	f[place/wordBits] = 1 << uint(place%wordBits)
	return f
}

// parts: the magnitude of a finite float as m * 2^(k-1074).
func parts(x float64) (m uint64, k int) {
	b := math.Float64bits(x)
	m = b & fractionMask
	exponent := int(b >> fractionBits & exponentMask)
	if exponent == 0 {
		return m, 0
	}
	return m | firstBit, exponent - 1
}
