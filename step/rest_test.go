package step

import (
	"fmt"
	"slices"
	"testing"

	"tarn/api"
	"tarn/cube"
	"tarn/grid"
	"tarn/state"
)

// pulls: plans without weather, from those that do nothing to those that do most.
func pulls(side int) []api.Plan {
	var out []api.Plan
	for limiter := range 4 {
		for _, x := range [][3]float64{{0.5, 1, 0}, {0.1, 9.81, 0.1}, {least, 0, 0}, {1024, 1024, 0}, {1024, 0, 1024}, {1024, 1024, 1024}} {
			out = append(out, api.Plan{Side: side, Dt: x[0], Gravity: x[1], Drag: x[2], Limiter: limiter})
		}
	}
	return out
}

// rests: whether a sea is at rest by DOC.md's words, and stays so for some steps, with tracer, with a full sky, from any Step on.
func rests(t *testing.T, what string, g *grid.Grid, s api.Sea) {
	t.Helper()
	if !modelOf(g, calm(g.Side()), s).atRest() {
		t.Fatalf("%s: this isn't at rest: %v", what, s)
	}
	for cell := range s.Tracer {
		s.Tracer[cell] = int64(cell % 5)
	}
	s.Sky = most - total(s.Water)
	nothing := make([]int64, g.Edges())
	for k, p := range pulls(g.Side()) {
		s := state.Copy(s)
		s.Step = []int{0, 7, 1<<62 - 1, 1 << 62}[k%4]
		for range 3 {
			next, flow := stepped(t, what, g, p, s)
			s.Step = min(s.Step+1, 1<<62)
			if !same(next, s) {
				t.Fatalf("%s, by %v:\n%v has become\n%v", what, p, s, next)
			}
			if !slices.Equal(flow.Water, nothing) || !slices.Equal(flow.Tracer, nothing) {
				t.Fatalf("%s, by %v: it flows: %v", what, p, flow)
			}
			s = next
		}
	}
}

// P21.4: ponds of every depth, and seas without water over any beds.
func TestPonds(t *testing.T) {
	p := newPicker()
	for _, side := range []int{1, 2, 3, 7} {
		g := made(t, side)
		for _, depth := range []int64{0, 1, 2, 1000} {
			rests(t, fmt.Sprint("a pond, side ", side, ", depth ", depth), g, pond(g, depth))
		}
		hills := dry(g)
		p.beds(hills, wild)
		rests(t, fmt.Sprint("no water, side ", side), g, hills)
	}
}

// P21.4: lakes over beds of unlike heights, islands and shores among them.
func TestLakes(t *testing.T) {
	p := newPicker()
	for _, side := range []int{1, 2, 4, 5} {
		g := made(t, side)
		for level := -3; level <= 4; level++ {
			bed := make([]float64, g.Cells())
			for cell := range bed {
				bed[cell] = float64(p.below(7) - 3)
			}
			s, errno := state.Lake(side, bed, float64(level))
			if errno != api.OK {
				t.Fatal(errno)
			}
			rests(t, fmt.Sprint("a lake, side ", side, ", level ", level), g, s)
		}
	}
}

// walled: two lakes of unlike levels, the cells of face 4 that no other face touches and all faces but face 4; between them a
// dry wall.
func walled(g *grid.Grid, inner, outer int64, wall float64) api.Sea {
	s := dry(g)
	for cell := range s.Water {
		face, i, j, _ := cube.Place(g.Side(), cell)
		end := g.Side() - 1
		switch {
		case face != 4:
			s.Bed[cell], s.Water[cell] = -1, (outer+1)*g.Area(cell)
		case i == 0 || j == 0 || i == end || j == end:
			s.Bed[cell] = wall
		default:
			s.Bed[cell], s.Water[cell] = -2, (inner+2)*g.Area(cell)
		}
	}
	return s
}

// P21.4: a wall as high as the higher lake holds both apart; a lower one doesn't.
func TestWalls(t *testing.T) {
	for _, side := range []int{3, 4, 6} {
		g := made(t, side)
		for _, x := range []struct {
			inner, outer int64
			wall         float64
		}{{3, 1, 5}, {3, 1, 3}, {1, 3, 3}, {1, 3, 0x1p20}, {-1, 0, 0}, {0, 5, 6}} {
			rests(t, fmt.Sprint("a wall, side ", side, ", ", x), g, walled(g, x.inner, x.outer, x.wall))
		}
		low := walled(g, 3, 1, 2.75)
		next, flow := stepped(t, "a low wall", g, calm(side), low)
		if modelOf(g, calm(side), low).atRest() || slices.Equal(next.Water, low.Water) || slices.Equal(flow.Water, make([]int64, g.Edges())) {
			t.Errorf("side %d: a low wall holds", side)
		}
	}
}

// What isn't at rest moves: a quantum more in one cell, a speed over one edge. And a sea at rest doesn't stay the same where
// rains and rivers are.
func TestNotAtRest(t *testing.T) {
	g := made(t, 2)
	for cell := range g.Cells() {
		s := pond(g, 1)
		s.Water[cell]++
		next, _ := stepped(t, "a quantum", g, calm(2), s)
		for over := range 4 {
			if e, _ := g.Around(cell, over); next.Speed[e] == 0 {
				t.Errorf("a quantum more in cell %d doesn't pull over edge %d", cell, e)
			}
		}
	}
	for e := range g.Edges() {
		s, p := pond(g, 1), calm(2)
		s.Speed[e], p.Gravity = 0.25, 0
		next, flow := stepped(t, "a speed", g, p, s)
		x, _ := g.Edge(e)
		if next.Speed[e] != 0.25 || flow.Water[e] == 0 || next.Water[x.Left] != s.Water[x.Left]-flow.Water[e] || next.Water[x.Right] != s.Water[x.Right]+flow.Water[e] {
			t.Errorf("a speed over edge %d: %v", e, next)
		}
	}
	s, p := pond(g, 1), calm(2)
	p.Rains = []api.Rain{{Cell: 23, Amount: -9, To: 1}}
	if next, _ := stepped(t, "rain", g, p, s); next.Sky != 9 || next.Water[23] != s.Water[23]-9 {
		t.Errorf("rain on a pond: %v", next)
	}
	pools := walled(made(t, 3), 3, 1, 3) // at rest, but for a wall that gets wet: it rains on the middle of its side
	p = api.Plan{Side: 3, Dt: 0.5, Gravity: 1, Rivers: true, Rains: []api.Rain{{Cell: 37, Amount: 400, To: 1}}}
	pools.Sky = 400
	if next, flow := stepped(t, "rivers", made(t, 3), p, pools); next.Water[37] != 300 || !slices.Equal(flow.Water, make([]int64, 108)) {
		t.Errorf("rivers: %v", next)
	}
}
