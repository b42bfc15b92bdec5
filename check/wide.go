package check

import (
	"math/bits"

	"tarn/api"
)

// wide is a whole number of 128 bits, below 0 by two's complement: no sum of int64s that memory holds gets beyond it, and
// of one number there is one form, so that == is the numbers'.
type wide struct {
	high, low uint64
}

func (w wide) plus(numbers ...int64) wide {
	for _, n := range numbers {
		low, carry := bits.Add64(w.low, uint64(n), 0)
		high, _ := bits.Add64(w.high, signs(n), carry)
		w = wide{high, low}
	}
	return w
}

// signs: 64 bits that all are n's sign.
func signs(n int64) uint64 { return uint64(n >> 63) }

// waterOf a raw sea: in its cells and its sky.
func waterOf(s api.Sea) wide { return wide{}.plus(s.Water...).plus(s.Sky) }

func tracerOf(s api.Sea) wide { return wide{}.plus(s.Tracer...) }
