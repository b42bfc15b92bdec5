package limit

import (
	"math"
	"math/big"
)

// model: the chapter's words over exact numbers, each of Leer's operations rounded by itself; it leans on no float operation but comparison and sign.
func model(kind int, a, b float64) float64 {
	switch {
	case a > 0 && b > 0:
		return modelAbove(kind, a, b)
	case a < 0 && b < 0:
		s := modelAbove(kind, -a, -b)
		if s == 0 {
			return 0
		}
		return -s
	}
	return 0
}

func modelAbove(kind int, a, b float64) float64 {
	switch kind {
	case 1:
		return lesser(a, b)
	case 2:
		p, q := lesser(times(2, a), b), lesser(a, times(2, b))
		if p < q {
			return q
		}
		return p
	case 3:
		return over(times(times(2, a), b), plus(a, b))
	}
	return 0
}

func lesser(a, b float64) float64 {
	if b < a {
		return b
	}
	return a
}

func infinite(x float64) bool { return x > math.MaxFloat64 }

func exact(x float64) *big.Rat { return new(big.Rat).SetFloat64(x) }

func rounded(r *big.Rat) float64 {
	x, _ := r.Float64()
	return x
}

// times, plus: of numbers above 0, or a product that has become 0.
func times(a, b float64) float64 {
	if infinite(a) || infinite(b) {
		return math.Inf(1)
	}
	return rounded(exact(a).Mul(exact(a), exact(b)))
}

func plus(a, b float64) float64 {
	if infinite(a) || infinite(b) {
		return math.Inf(1)
	}
	return rounded(exact(a).Add(exact(a), exact(b)))
}

// over: the quotient, but 0 if it isn't finite.
func over(p, q float64) float64 {
	if infinite(p) { // over the infinity it is a NaN, over all else the infinity
		return 0
	}
	if infinite(q) {
		return 0
	}
	s := rounded(exact(p).Quo(exact(p), exact(q)))
	if infinite(s) {
		return 0
	}
	return s
}
