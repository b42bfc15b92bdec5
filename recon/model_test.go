package recon

import (
	"math"
	"math/big"

	"tarn/api"
	"tarn/cube"
	"tarn/grid"
)

// The model: the chapter's words over exact numbers, each operation rounded by itself; of floats it takes their
// comparisons alone. What a net is it takes from layers 6 and 9, of the layers between nothing.

// basin: what the model knows of a cell.
type basin struct {
	bed         float64
	water, area int64
}

func exact(x float64) *big.Rat { return new(big.Rat).SetFloat64(x) }

func rounded(r *big.Rat) float64 {
	x, _ := r.Float64() // a rational 0 is +0 as a float
	return x
}

func finite(x float64) bool { return x >= -math.MaxFloat64 && x <= math.MaxFloat64 }

func plus(a, b float64) float64  { return rounded(new(big.Rat).Add(exact(a), exact(b))) }
func minus(a, b float64) float64 { return rounded(new(big.Rat).Sub(exact(a), exact(b))) }
func times(a, b float64) float64 { return rounded(new(big.Rat).Mul(exact(a), exact(b))) }
func over(a, b float64) float64  { return rounded(new(big.Rat).Quo(exact(a), exact(b))) }

func nearestFloat(i int64) float64 { return rounded(new(big.Rat).SetInt64(i)) }

func (b basin) depth() float64 {
	if b.water < 1 {
		return 0
	}
	return over(nearestFloat(b.water), nearestFloat(b.area))
}

func modelSlope(kind int, a, b float64) float64 {
	switch {
	case a > 0 && b > 0:
		return slopeAbove(kind, a, b)
	case a < 0 && b < 0:
		return -slopeAbove(kind, -a, -b)
	}
	return 0
}

// slopeAbove: differences of depths are far from what floats can't hold.
func slopeAbove(kind int, a, b float64) float64 {
	switch kind {
	case 1:
		return lesser(a, b)
	case 2:
		return -lesser(-lesser(times(2, a), b), -lesser(a, times(2, b)))
	case 3:
		return over(times(times(2, a), b), plus(a, b))
	}
	return 0
}

func lesser(a, b float64) float64 {
	if b < a {
		return b
	}
	return a
}

// gateOf: how much stands above both beds; 0, where the chapter's words make a NaN of it, or nothing above 0.
func gateOf(up, down basin) float64 {
	if !finite(up.bed) || !(down.bed <= math.MaxFloat64) { // an infinity less itself, or below one
		return 0
	}
	high := up.bed
	if down.bed > high {
		high = down.bed
	}
	return minus(plus(up.bed, up.depth()), high)
}

func modelFrom(kind int, up, down, back basin) float64 {
	x, y := minus(up.depth(), back.depth()), minus(down.depth(), up.depth())
	v := plus(up.depth(), times(0.5, modelSlope(kind, x, y)))
	if r := lesser(v, gateOf(up, down)); r > 0 {
		return r
	}
	return 0
}

// model of Depth, of an edge that there is and lists that fit.
func model(g *grid.Grid, kind int, s api.Sea, e int, u float64) float64 {
	x, _ := g.Edge(e)
	up, down, ahead := x.Left, x.Right, x.Side
	switch {
	case u > 0:
	case u < 0:
		up, down, ahead = x.Right, x.Left, x.Back
	default:
		return 0
	}
	back, _ := cube.Beside(g.Side(), up, (ahead+2)%4)
	of := func(cell int) basin { return basin{s.Bed[cell], s.Water[cell], g.Area(cell)} }
	return modelFrom(kind, of(up), of(down), of(back))
}
