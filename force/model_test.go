package force

import (
	"math"
	"math/big"

	"tarn/api"
	"tarn/grid"
)

// The model: the chapter's words over exact numbers, each operation rounded by itself; of floats it takes their
// comparisons alone. What a net is it takes from layer 9, of the layers between nothing. The signs of noughts are left
// out of it: none of them shows in an answer, since what is divided by is above 0, or a sum that came out as +0.

func isNaN(x float64) bool { return x != x }

func finite(x float64) bool { return x >= -greatest && x <= greatest }

func exact(x float64) *big.Rat { return new(big.Rat).SetFloat64(x) }

func rounded(r *big.Rat) float64 {
	x, _ := r.Float64() // beyond the greatest float: an infinity
	return x
}

// endless: the infinity with the sign of a product or a quotient.
func endless(x, y float64) float64 {
	if x < 0 == (y < 0) {
		return inf
	}
	return -inf
}

func plus(x, y float64) float64 {
	switch {
	case finite(x) && finite(y):
		return rounded(new(big.Rat).Add(exact(x), exact(y)))
	case isNaN(x) || isNaN(y) || x == -y:
		return math.NaN()
	case finite(x):
		return y
	}
	return x
}

func minus(x, y float64) float64 { return plus(x, -y) }

func times(x, y float64) float64 {
	switch {
	case finite(x) && finite(y):
		return rounded(new(big.Rat).Mul(exact(x), exact(y)))
	case isNaN(x) || isNaN(y) || x == 0 || y == 0:
		return math.NaN()
	}
	return endless(x, y)
}

// over takes a nought that it divides by for +0.
func over(x, y float64) float64 {
	switch {
	case isNaN(x) || isNaN(y) || x == 0 && y == 0 || !finite(x) && !finite(y):
		return math.NaN()
	case !finite(y):
		return 0
	case !finite(x) || y == 0:
		return endless(x, y)
	}
	return rounded(new(big.Rat).Quo(exact(x), exact(y)))
}

func modelAbs(x float64) float64 {
	if x < 0 {
		return -x
	}
	return x
}

func modelDepth(water, area int64) float64 {
	if water < 1 {
		return 0
	}
	return over(rounded(new(big.Rat).SetInt64(water)), rounded(new(big.Rat).SetInt64(area)))
}

// modelOpen: L and R as the chapter has them, of an edge that there is and a sea that fits.
func modelOpen(g *grid.Grid, s api.Sea, e int) bool {
	x, _ := g.Edge(e)
	wL, wR := s.Water[x.Left], s.Water[x.Right]
	lL := plus(s.Bed[x.Left], modelDepth(wL, g.Area(x.Left)))
	lR := plus(s.Bed[x.Right], modelDepth(wR, g.Area(x.Right)))
	switch {
	case wL <= 0 && wR <= 0:
		return false
	case wL <= 0:
		return isNaN(lR) || isNaN(s.Bed[x.Left]) || lR > s.Bed[x.Left]
	case wR <= 0:
		return isNaN(lL) || isNaN(s.Bed[x.Right]) || lL > s.Bed[x.Right]
	}
	return true
}

// modelSpeed of an edge that there is and a sea that fits.
func modelSpeed(g *grid.Grid, p api.Plan, s api.Sea, e int) float64 {
	if !modelOpen(g, s, e) {
		return 0
	}
	x, _ := g.Edge(e)
	dL := modelDepth(s.Water[x.Left], g.Area(x.Left))
	dR := modelDepth(s.Water[x.Right], g.Area(x.Right))
	lL, lR := plus(s.Bed[x.Left], dL), plus(s.Bed[x.Right], dR)
	pull := over(times(times(p.Gravity, p.Dt), minus(lR, lL)), g.Gap(e))
	u1 := minus(s.Speed[e], pull)
	h := times(0.5, plus(dL, dR))
	u2 := over(u1, plus(1, over(times(times(p.Drag, p.Dt), modelAbs(u1)), h)))
	switch {
	case isNaN(u2) || u2 == 0:
		return 0
	case u2 > 1024:
		return 1024
	case u2 < -1024:
		return -1024
	}
	return u2
}
