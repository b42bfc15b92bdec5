package flux

import (
	"math"
	"math/big"
)

// The model: the chapter's words over exact numbers, each product rounded by itself, the clamping over whole numbers
// of any size. Of floats it takes their comparisons alone.

func isNaN(x float64) bool { return x != x }

func infinite(x float64) bool { return x > math.MaxFloat64 || x < -math.MaxFloat64 }

// modelTimes: the float nearest to the product; of noughts the sign doesn't count here.
func modelTimes(x, y float64) float64 {
	if isNaN(x) || isNaN(y) || infinite(x) && y == 0 || x == 0 && infinite(y) {
		return math.NaN()
	}
	if infinite(x) || infinite(y) {
		if x < 0 == (y < 0) {
			return math.Inf(1)
		}
		return math.Inf(-1)
	}
	r := new(big.Rat).SetFloat64(x)
	out, _ := r.Mul(r, new(big.Rat).SetFloat64(y)).Float64() // beyond the greatest float: an infinity
	return out
}

// modelRound: the nearest whole number, of two equally near ones the even one.
func modelRound(x float64) *big.Int {
	r := new(big.Rat).SetFloat64(x)
	twice := new(big.Int).Lsh(r.Num(), 1)
	twice.Add(twice, r.Denom())
	both := new(big.Int).Lsh(r.Denom(), 1)
	up, rest := new(big.Int).DivMod(twice, both, new(big.Int)) // x + 1/2, rounded down
	if rest.Sign() == 0 && up.Bit(0) == 1 {
		up.Sub(up, big.NewInt(1))
	}
	return up
}

func modelClamp(x float64) int64 {
	const most = 4503599627370496
	switch {
	case isNaN(x):
		return 0
	case x > 2*most: // infinities too
		return most
	case x < -2*most:
		return -most
	}
	n := modelRound(x).Int64()
	if n > most {
		return most
	}
	if n < -most {
		return -most
	}
	return n
}

// model of Quanta.
func model(u, depth, length, dt float64) int64 {
	x := u
	for _, y := range []float64{depth, length, dt, 1073741824} {
		x = modelTimes(x, y)
	}
	return modelClamp(x)
}

// onceRounded: what Quanta of finite floats would be, were only the whole product rounded to a float.
func onceRounded(factors ...float64) int64 {
	r := big.NewRat(1073741824, 1)
	for _, y := range factors {
		r.Mul(r, new(big.Rat).SetFloat64(y))
	}
	x, _ := r.Float64()
	return modelClamp(x)
}
