package river

import (
	"math/big"
	"slices"

	"tarn/api"
	"tarn/cube"
	"tarn/grid"
)

// The model: the chapter's words in another way. Beds are held against each other by <, cells lie beside each other as
// layer 6 says, the place of a cell in the order is how many come ahead of it, and how much runs out of a cell is asked
// from below: what it had, and what ran into it out of all cells of which it is the Down. So no order is gone through.

func modelLess(a, b float64) bool { return a < b || a == a && b != b }

func modelSame(a, b float64) bool { return a == b || a != a && b != b }

// modelBeside: the four cells over the sides of a cell, the lesser numbers first.
func modelBeside(side int, cell int) []int {
	var out []int
	for over := range 4 {
		next, _ := cube.Beside(side, cell, over)
		out = append(out, next)
	}
	slices.Sort(out)
	return out
}

// modelDown of a cell that there is, and of beds that fit.
func modelDown(side int, bed []float64, cell int) int {
	beside := modelBeside(side, cell)
	for _, next := range beside {
		lower := func(other int) bool { return modelLess(bed[other], bed[next]) }
		if modelLess(bed[next], bed[cell]) && !slices.ContainsFunc(beside, lower) {
			return next
		}
	}
	return -1
}

func modelOrder(bed []float64) []int {
	out := make([]int, len(bed))
	for cell, height := range bed {
		ahead := 0
		for other, otherHeight := range bed {
			if modelLess(height, otherHeight) || modelSame(height, otherHeight) && other < cell {
				ahead++
			}
		}
		out[ahead] = cell
	}
	return out
}

func modelSum(list []int64) *big.Int {
	sum := new(big.Int)
	for _, n := range list {
		sum.Add(sum, big.NewInt(n))
	}
	return sum
}

func modelCanBe(list []int64) bool {
	return !slices.ContainsFunc(list, func(n int64) bool { return n < 0 }) && modelSum(list).Cmp(big.NewInt(1<<52)) <= 0
}

// turn: what a cell has as it is its turn, and what it gives then.
type turn struct {
	water, tracer         int64
	givesWater, givesSome int64 // of water, of tracer
}

// modelTurn of a cell; into holds the cells whose Down a cell is.
func modelTurn(g *grid.Grid, s api.Sea, into [][]int, cell int, deadEnd bool) turn {
	out := turn{water: s.Water[cell], tracer: s.Tracer[cell]}
	for _, above := range into[cell] {
		from := modelTurn(g, s, into, above, false)
		out.water += from.givesWater
		out.tracer += from.givesSome
	}
	if deadEnd || 2*out.water >= g.Area(cell) { // areas are below 2^31, so that no Depth rounds to 0.5
		return out
	}
	out.givesWater = out.water >> 2
	if out.water > 0 {
		product := new(big.Int).Mul(big.NewInt(out.tracer), big.NewInt(out.givesWater))
		out.givesSome = product.Div(product, big.NewInt(out.water)).Int64()
	}
	return out
}

// modelRun of a sea that fits g; false if the chapter says ErrArg.
func modelRun(g *grid.Grid, s api.Sea) ([]int64, []int64, bool) {
	if !modelCanBe(s.Water) || !modelCanBe(s.Tracer) {
		return nil, nil, false
	}
	downs, into := make([]int, g.Cells()), make([][]int, g.Cells())
	for cell := range downs {
		downs[cell] = modelDown(g.Side(), s.Bed, cell)
		if downs[cell] >= 0 {
			into[downs[cell]] = append(into[downs[cell]], cell)
		}
	}
	var water, tracer []int64
	for cell, down := range downs {
		has := modelTurn(g, s, into, cell, down < 0)
		water = append(water, has.water-has.givesWater)
		tracer = append(tracer, has.tracer-has.givesSome)
	}
	return water, tracer, true
}
