package state

import (
	"math"

	"tarn/api"
	"tarn/bits"
	"tarn/grid"
	"tarn/level"
	"tarn/limit"
	"tarn/rain"
)

const (
	nowhere      = -1   // less than every place
	edgesPerCell = 2    // it has four sides, and each edge is a side of two cells
	mostOfPlan   = 1024 // the greatest Dt, Gravity and Drag
)

// numbersCanBe: whether there is no ErrPlan.
func numbersCanBe(p api.Plan) bool {
	return p.Dt > 0 && p.Dt <= mostOfPlan && kept(p.Gravity, 0, mostOfPlan) && kept(p.Drag, 0, mostOfPlan) && limit.Valid(p.Limiter)
}

// rainsCanBe in a plan of so many cells.
func rainsCanBe(cells int, rains []api.Rain) bool {
	if len(rains) > api.MaxRains {
		return false
	}
	for _, r := range rains {
		if !rain.Valid(cells, r) {
			return false
		}
	}
	return true
}

// misfit: the first list of a sea, of the four, that doesn't fit a net of so many cells.
func misfit(cells int, s api.Sea) int {
	switch {
	case len(s.Bed) != cells:
		return 0
	case len(s.Water) != cells:
		return 1
	case len(s.Tracer) != cells:
		return 2
	case len(s.Speed) != edgesPerCell*cells:
		return 3
	}
	return nowhere
}

// beyond: the first float that a sea wouldn't keep, where most is the greatest magnitude.
func beyond(list []float64, most float64) int {
	for k, x := range list {
		if !kept(x, -most, most) {
			return k
		}
	}
	return nowhere
}

// kept: whether x is from low to high, and in the form in which floats are kept: of both noughts only +0 is.
func kept(x, low, high float64) bool {
	return within(x, low, high) && sameFloats(x, bits.Canon(x))
}

// within: no NaN is.
func within(x, low, high float64) bool { return x >= low && x <= high }

// tooMuch: the first number that is below 0, or for which those ahead of it leave no room.
func tooMuch(list []int64, room int64) int {
	for k, n := range list {
		if n < 0 || n > room { // a sum of them could wrap round
			return k
		}
		room -= n
	}
	return nowhere
}

// sameLists: whether both are as long and same says so of each two numbers at one place. For floats == won't do: it
// takes both noughts for the same, and no NaN for itself.
func sameLists[T int64 | float64](a, b []T, same func(T, T) bool) bool {
	if len(a) != len(b) {
		return false
	}
	for k, x := range a {
		if !same(x, b[k]) {
			return false
		}
	}
	return true
}

func sameFloats(a, b float64) bool { return math.Float64bits(a) == math.Float64bits(b) }

func sameQuanta(a, b int64) bool { return a == b }

// filled: each cell's water, if all are filled to a height.
func filled(g *grid.Grid, bed []float64, height float64) []int64 {
	water := make([]int64, len(bed))
	for cell, floor := range bed {
		water[cell] = level.Fill(floor, g.Area(cell), height)
	}
	return water
}
