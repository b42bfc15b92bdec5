package mass

import "math/bits"

// wide is a whole number of 128 bits, below 0 by two's complement: no sum of int64s that memory holds gets beyond it.
type wide struct {
	high, low uint64
}

func (w wide) plus(numbers ...int64) wide {
	for _, n := range numbers {
		low, carry := bits.Add64(w.low, uint64(n), 0)
		high, _ := bits.Add64(w.high, signs(n), carry)
		w = wide{high, low}
	}
	return w
}

// minus isn't plus of the opposite, since that of -2^63 is no int64.
func (w wide) minus(n int64) wide {
	low, borrow := bits.Sub64(w.low, uint64(n), 0)
	high, _ := bits.Sub64(w.high, signs(n), borrow)
	return wide{high, low}
}

// short: the number as an int64; false if it is none.
func (w wide) short() (int64, bool) {
	n := int64(w.low)
	return n, w.high == signs(n)
}

// signs: 64 bits that all are n's sign.
func signs(n int64) uint64 { return uint64(n >> 63) }
