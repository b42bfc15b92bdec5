package share

import (
	"math"
	"math/big"

	"tarn/grid"
)

// The model: the chapter's words over whole numbers of any size. It goes by edges, not by cells: what a cell gives in
// all is gathered first, and each flow cut behind that.

func modelPart(x, y, z *big.Int) *big.Int {
	return new(big.Int).Div(new(big.Int).Mul(x, y), z)
}

func modelOf(x, y, z int64) int64 {
	if z == 0 || x < 0 || y < 0 || z < 0 {
		return 0
	}
	part := modelPart(big.NewInt(x), big.NewInt(y), big.NewInt(z))
	if !part.IsInt64() {
		return math.MaxInt64
	}
	return part.Int64()
}

func modelSum(list []int64) *big.Int {
	sum := new(big.Int)
	for _, n := range list {
		sum.Add(sum, big.NewInt(n))
	}
	return sum
}

// modelCut: false if the chapter says ErrArg.
func modelCut(water int64, outs []int64) ([]int64, bool) {
	sum := modelSum(outs)
	if water < 0 || !sum.IsInt64() {
		return nil, false
	}
	var cut []int64
	for _, out := range outs {
		if out < 0 {
			return nil, false
		}
		if sum.Cmp(big.NewInt(water)) > 0 {
			out = modelPart(big.NewInt(out), big.NewInt(water), sum).Int64()
		}
		cut = append(cut, out)
	}
	return cut, true
}

// giver of a flow over an edge; none of 0.
func giver(g *grid.Grid, e int, flow int64) (int, bool) {
	x, _ := g.Edge(e)
	if flow > 0 {
		return x.Left, true
	}
	return x.Right, flow < 0
}

// gives: what each cell gives in all.
func gives(g *grid.Grid, flows []int64) []*big.Int {
	out := make([]*big.Int, g.Cells())
	for cell := range out {
		out[cell] = new(big.Int)
	}
	for e, flow := range flows {
		if cell, ok := giver(g, e, flow); ok {
			size := big.NewInt(flow)
			out[cell].Add(out[cell], size.Abs(size))
		}
	}
	return out
}

// modelAll of water and flows that are as they should be.
func modelAll(g *grid.Grid, water []int64, flows []int64) []int64 {
	given := gives(g, flows)
	out := make([]int64, len(flows))
	for e, flow := range flows {
		out[e] = flow
		cell, ok := giver(g, e, flow)
		if has := big.NewInt(water[cell]); ok && given[cell].Cmp(has) > 0 {
			size := big.NewInt(flow)
			cut := modelPart(size.Abs(size), has, given[cell]).Int64()
			if flow < 0 {
				cut = -cut
			}
			out[e] = cut
		}
	}
	return out
}
