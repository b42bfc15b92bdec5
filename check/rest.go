package check

import (
	"math"

	"tarn/api"
	"tarn/force"
	"tarn/grid"
	"tarn/level"
)

// still: whether all speeds are +0.
func still(speeds []float64) bool {
	for _, speed := range speeds {
		if !same(speed, 0) {
			return false
		}
	}
	return true
}

// even: whether over no edge water that can go stands higher on one side.
func even(g *grid.Grid, s api.Sea) bool {
	for e := range g.Edges() {
		two, _ := g.Edge(e) // there is one: e counts them
		if force.Open(g, s, e) && !same(levelOf(g, s, two.Left), levelOf(g, s, two.Right)) {
			return false
		}
	}
	return true
}

func levelOf(g *grid.Grid, s api.Sea, cell int) float64 {
	return level.Level(s.Bed[cell], s.Water[cell], g.Area(cell))
}

func same(x, y float64) bool { return math.Float64bits(x) == math.Float64bits(y) }
