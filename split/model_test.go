package split

import (
	"math"
	"slices"

	"tarn/api"
	"tarn/cube"
	"tarn/grid"
)

// The model: the chapter's words in another way, without layer 9: each cell, each edge and each halo cell is asked which parts
// it belongs to, where Split asks each part what it has; edges are found by layer 6; what a part sees of a sea is asked place
// by place.

// modelEdge: two cells, and those that lie behind them.
type modelEdge struct {
	left, right, behindLeft, behindRight int
}

// modelEdges: in the order of their numbers.
func modelEdges(side int) []modelEdge {
	var out []modelEdge
	for left := range 6 * side * side {
		for over := range 4 {
			right, back := cube.Beside(side, left, over)
			if right < left {
				continue // it is the edge's Left
			}
			behindLeft, _ := cube.Beside(side, left, (over+2)%4)
			behindRight, _ := cube.Beside(side, right, (back+2)%4)
			out = append(out, modelEdge{left, right, behindLeft, behindRight})
		}
	}
	return out
}

// modelPartOf a cell: the last part k whose first cell, k * cells / parts rounded down, isn't behind it.
func modelPartOf(cells, parts, cell int) int { return ((cell+1)*parts - 1) / cells }

func modelSplit(side, parts int) []Part {
	cells := 6 * side * side
	out := make([]Part, parts)
	for cell := range cells {
		own := &out[modelPartOf(cells, parts, cell)]
		own.Cells = append(own.Cells, cell)
	}
	for e, x := range modelEdges(side) {
		k := modelPartOf(cells, parts, x.left)
		own := &out[k]
		own.Edges = append(own.Edges, e)
		for _, cell := range []int{x.right, x.behindLeft, x.behindRight} {
			if modelPartOf(cells, parts, cell) != k {
				own.Halo = append(own.Halo, cell)
			}
		}
	}
	for k := range out {
		slices.Sort(out[k].Halo)
		out[k].Halo = slices.Compact(out[k].Halo)
	}
	return out
}

func samePart(x, y Part) bool {
	return slices.Equal(x.Cells, y.Cells) && slices.Equal(x.Edges, y.Edges) && slices.Equal(x.Halo, y.Halo)
}

// modelLocal of a part and a sea that are taken.
func modelLocal(p Part, s api.Sea) api.Sea {
	out := api.Sea{Step: s.Step}
	for cell := range s.Bed {
		bed, water, tracer := uint64(0), int64(0), int64(0)
		if slices.Contains(append(slices.Clone(p.Cells), p.Halo...), cell) {
			bed, water, tracer = math.Float64bits(s.Bed[cell]), s.Water[cell], s.Tracer[cell]
		}
		out.Bed = append(out.Bed, math.Float64frombits(bed))
		out.Water, out.Tracer = append(out.Water, water), append(out.Tracer, tracer)
	}
	for e := range s.Speed {
		speed := uint64(0)
		if slices.Contains(p.Edges, e) {
			speed = math.Float64bits(s.Speed[e])
		}
		out.Speed = append(out.Speed, math.Float64frombits(speed))
	}
	return out
}

// modelTakes: whether Local takes a part and a sea.
func modelTakes(g *grid.Grid, p Part, s api.Sea) bool {
	cells, edges := 6*g.Side()*g.Side(), 12*g.Side()*g.Side()
	for _, n := range []int{len(s.Bed), len(s.Water), len(s.Tracer)} {
		if n != cells {
			return false
		}
	}
	for _, k := range append(slices.Clone(p.Cells), p.Halo...) {
		if min(max(k, 0), cells-1) != k {
			return false
		}
	}
	for _, k := range p.Edges {
		if min(max(k, 0), edges-1) != k {
			return false
		}
	}
	return len(s.Speed) == edges
}
