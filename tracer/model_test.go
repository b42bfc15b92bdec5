package tracer

import (
	"math/big"

	"tarn/grid"
)

// The model: the chapter's words over whole numbers of any size. Each take stands by itself, of sums made anew; of a net
// it goes by edges, and what a cell gives over which of its sides is told by the edges, not by the cell.

func modelPart(x int64, y *big.Int, z int64) *big.Int {
	if z == 0 {
		return new(big.Int)
	}
	product := new(big.Int).Mul(big.NewInt(x), y)
	return product.Div(product, big.NewInt(z))
}

func modelSum(list []int64) *big.Int {
	sum := new(big.Int)
	for _, n := range list {
		sum.Add(sum, big.NewInt(n))
	}
	return sum
}

// modelTake of the k-th of outs, from 1 on.
func modelTake(water int64, has int64, outs []int64, k int) int64 {
	behind, ahead := modelPart(has, modelSum(outs[:k]), water), modelPart(has, modelSum(outs[:k-1]), water)
	return behind.Sub(behind, ahead).Int64()
}

// modelTakes: false if the chapter says ErrArg.
func modelTakes(water int64, has int64, outs []int64) ([]int64, bool) {
	if water < 0 || has < 0 || modelSum(outs).Cmp(big.NewInt(water)) > 0 {
		return nil, false
	}
	var takes []int64
	for k, out := range outs {
		if out < 0 {
			return nil, false
		}
		takes = append(takes, modelTake(water, has, outs, k+1))
	}
	return takes, true
}

// giver of a flow over an edge, and over which of its sides; none of 0.
func giver(g *grid.Grid, e int, flow int64) (int, int, bool) {
	x, _ := g.Edge(e)
	if flow > 0 {
		return x.Left, x.Side, true
	}
	return x.Right, x.Back, flow < 0
}

func size(flow int64) int64 { return max(flow, -flow) }

// gives: what each cell gives over each of its sides.
func gives(g *grid.Grid, flows []int64) [][4]int64 {
	out := make([][4]int64, g.Cells())
	for e, flow := range flows {
		if cell, over, ok := giver(g, e, flow); ok {
			out[cell][over] = size(flow)
		}
	}
	return out
}

// modelFlows of lists that fit and of numbers that are as they should be, each by itself; false if a cell gives more
// than it has.
func modelFlows(g *grid.Grid, water []int64, has []int64, flows []int64) ([]int64, bool) {
	given := gives(g, flows)
	for cell, outs := range given {
		if modelSum(outs[:]).Cmp(big.NewInt(water[cell])) > 0 {
			return nil, false
		}
	}
	out := make([]int64, len(flows))
	for e, flow := range flows {
		if cell, over, ok := giver(g, e, flow); ok {
			out[e] = modelTake(water[cell], has[cell], given[cell][:], over+1)
			if flow < 0 {
				out[e] = -out[e]
			}
		}
	}
	return out, true
}
