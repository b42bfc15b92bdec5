package force

import (
	"math"

	"tarn/api"
	"tarn/bits"
	"tarn/grid"
	"tarn/level"
)

// cell: all that counts of a cell here.
type cell struct {
	bed         float64
	water, area int64
}

func (c cell) wet() bool { return c.water > 0 }

func (c cell) level() float64 { return level.Level(c.bed, c.water, c.area) }

func (c cell) depth() float64 { return level.Depth(c.water, c.area) }

// edge: all that its speed behind a step hangs on, but for the plan.
type edge struct {
	left, right cell
	gap, speed  float64
}

// edgeOf a sea; false: there is no such edge, or the sea doesn't fit the net.
func edgeOf(g *grid.Grid, s api.Sea, e int) (edge, bool) {
	two, ok := g.Edge(e)
	if !ok || !fits(g, s) {
		return edge{}, false
	}
	return edge{
		left:  cellOf(g, s, two.Left),
		right: cellOf(g, s, two.Right),
		gap:   g.Gap(e),
		speed: s.Speed[e],
	}, true
}

func cellOf(g *grid.Grid, s api.Sea, k int) cell {
	return cell{bed: s.Bed[k], water: s.Water[k], area: g.Area(k)}
}

func (x edge) open() bool {
	if !x.left.wet() && !x.right.wet() {
		return false
	}
	return !shut(x.left, x.right) && !shut(x.right, x.left)
}

// shut: whether a cell is dry and stands too high for the water beside it. A NaN shuts nothing.
func shut(c, beside cell) bool {
	return !c.wet() && beside.level() <= c.bed
}

// pulled: the speed that the levels make of the edge's own.
func (x edge) pulled(p api.Plan) float64 {
	pull := (p.Gravity * p.Dt) * (x.right.level() - x.left.level()) / x.gap
	return x.speed - pull
}

// depth between both cells.
func (x edge) depth() float64 {
	return 0.5 * (x.left.depth() + x.right.depth())
}

// dragged: what the bed leaves of the speed u over the depth h, as it is kept.
func dragged(p api.Plan, u, h float64) float64 {
	if h > 0 { // no NaN is
		return kept(u / (1 + (p.Drag*p.Dt)*math.Abs(u)/h))
	}
	return 0
}

// kept: the form in which a sea keeps a speed.
func kept(u float64) float64 {
	switch {
	case u > api.MaxSpeed:
		return api.MaxSpeed
	case u < -api.MaxSpeed:
		return -api.MaxSpeed
	case bits.Class(u) == api.NotANumber:
		return 0
	}
	return bits.Canon(u)
}
