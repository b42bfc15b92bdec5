package mass

import (
	"math/big"

	"tarn/grid"
)

// The model: the chapter's words over whole numbers of any size. It goes by cells and their sides, not by edges.

func modelSum(lists ...[]int64) *big.Int {
	sum := new(big.Int)
	for _, list := range lists {
		for _, n := range list {
			sum.Add(sum, big.NewInt(n))
		}
	}
	return sum
}

// modelGain: what comes in over a cell's four sides, less what goes out over them.
func modelGain(g *grid.Grid, cell int, flows []int64) *big.Int {
	gain := new(big.Int)
	for over := range 4 {
		e, sign := g.Around(cell, over)
		out := new(big.Int).Mul(big.NewInt(int64(sign)), big.NewInt(flows[e]))
		gain.Sub(gain, out)
	}
	return gain
}

// modelMove: false if the chapter says ErrRange.
func modelMove(g *grid.Grid, water []int64, flows []int64) ([]int64, bool) {
	var out []int64
	for cell, has := range water {
		then := modelGain(g, cell, flows)
		then.Add(then, big.NewInt(has))
		if then.Sign() < 0 || !then.IsInt64() {
			return nil, false
		}
		out = append(out, then.Int64())
	}
	return out, true
}
