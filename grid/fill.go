package grid

import (
	"tarn/api"
	"tarn/cube"
	"tarn/geom"
)

const sides = 4 // of a cell

// spot: a cell and one of its sides.
type spot struct {
	cell, side int
}

// end of an edge: sign is 1 at its Left, -1 at its Right.
type end struct {
	edge, sign int
}

const (
	atLeft  = 1
	atRight = -1
)

// addEdges: each from its Left, whose turn comes ahead of its Right's, so that they come in the order of their numbers.
func (g *Grid) addEdges(cells int) {
	for cell := range cells {
		for over := range sides {
			next, back := cube.Beside(g.side, cell, over)
			if cell < next {
				g.ends[spot{cell, over}] = end{len(g.edges), atLeft}
				g.ends[spot{next, back}] = end{len(g.edges), atRight}
				g.edges = append(g.edges, api.Edge{Left: cell, Side: over, Right: next, Back: back})
			}
		}
	}
}

func (g *Grid) areaOf(cell int) int64 {
	return geom.Area(g.side, cell)
}

func (g *Grid) cellsBehind(e int) [2]int {
	x := g.edges[e]
	return [2]int{g.cellOver(x.Left, opposite(x.Side)), g.cellOver(x.Right, opposite(x.Back))}
}

// cellOver a side of a cell: the other one of the edge that is found there.
func (g *Grid) cellOver(cell, side int) int {
	at := g.ends[spot{cell, side}]
	if at.sign == atLeft {
		return g.edges[at.edge].Right
	}
	return g.edges[at.edge].Left
}

func (g *Grid) lengthOf(e int) float64 {
	return geom.Length(g.side, g.edges[e].Left, g.edges[e].Side)
}

func (g *Grid) gapOf(e int) float64 {
	return geom.Gap(g.side, g.edges[e].Left, g.edges[e].Side)
}

func opposite(side int) int {
	return (side + sides/2) % sides
}

// listed: what is told of each number from 0 up to ahead of n.
func listed[T any](n int, of func(int) T) []T {
	out := make([]T, n)
	for k := range out {
		out[k] = of(k)
	}
	return out
}
