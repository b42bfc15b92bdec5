package vec

import (
	"math"
	"math/big"

	"tarn/api"
)

// The model reckons each operation exactly, by fractions or by many digits, and rounds it once.

// finite: no infinity and no NaN.
func finite(x float64) bool { return !math.IsNaN(x) && !math.IsInf(x, 0) }

// exact: a finite float as a fraction.
func exact(x float64) *big.Rat { return new(big.Rat).SetFloat64(x) }

// rounded: the float nearest to r, an infinity where it leaves the range.
func rounded(r *big.Rat) float64 {
	f, _ := r.Float64()
	return f
}

// differ: x - y.
func differ(x, y float64) float64 {
	switch {
	case math.IsNaN(x) || math.IsNaN(y) || math.IsInf(x, 0) && x == y:
		return quiet()
	case math.IsInf(x, 0):
		return x
	case math.IsInf(y, 0):
		return -y
	}
	return rounded(new(big.Rat).Sub(exact(x), exact(y)))
}

// times: x * y, its sign of a nought left out.
func times(x, y float64) float64 {
	if finite(x) && finite(y) {
		return rounded(new(big.Rat).Mul(exact(x), exact(y)))
	}
	if math.IsNaN(x) || math.IsNaN(y) || x == 0 || y == 0 {
		return quiet()
	}
	if math.Signbit(x) != math.Signbit(y) {
		return -inf()
	}
	return inf()
}

// over: x / l, where x is finite and l finite and above 0.
func over(x, l float64) float64 {
	return rounded(new(big.Rat).Quo(exact(x), exact(l)))
}

// plus: x + y, where neither is below 0.
func plus(x, y float64) float64 { return differ(x, -y) }

// root: the square root of a number that isn't below 0. That of a float never lies on a middle, so 400 digits tell.
func root(x float64) float64 {
	if !finite(x) || x == 0 {
		return x
	}
	f, _ := new(big.Float).SetPrec(400).Sqrt(new(big.Float).SetFloat64(x)).Float64()
	return f
}

// modelMinus: a - b.
func modelMinus(a, b api.Vec) api.Vec {
	return at(differ(a.X, b.X), differ(a.Y, b.Y), differ(a.Z, b.Z))
}

// modelCross: each component by the next two axes.
func modelCross(a, b api.Vec) api.Vec {
	x, y := parts(a), parts(b)
	var out [3]float64
	for k := range out {
		p, q := (k+1)%3, (k+2)%3
		out[k] = differ(times(x[p], y[q]), times(x[q], y[p]))
	}
	return at(out[0], out[1], out[2])
}

// modelLength: the root of the squares, the greatest added last.
func modelLength(a api.Vec) float64 {
	s := parts(a)
	for k, x := range s {
		if math.IsNaN(x) {
			return quiet()
		}
		s[k] = times(x, x)
	}
	for k := range 2 {
		if s[k] > s[2] {
			s[k], s[2] = s[2], s[k]
		}
	}
	return root(plus(plus(s[0], s[1]), s[2]))
}

// modelUnit: a over its length.
func modelUnit(a api.Vec) api.Vec {
	l := modelLength(a)
	if l == 0 || !finite(l) {
		return at(0, 0, 0)
	}
	return at(over(a.X, l), over(a.Y, l), over(a.Z, l))
}
