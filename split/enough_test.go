package split

import (
	"fmt"
	"math"
	"testing"

	"tarn/api"
	"tarn/force"
	"tarn/grid"
	"tarn/recon"
)

// wet: a sea that fits, with depths about as great as its beds are high; some cells have nothing, or less.
func (p *picker) wet(g *grid.Grid, dryOf int) api.Sea {
	s := p.sea(g)
	for cell := range s.Water {
		if p.below(4) > 0 {
			s.Bed[cell] = float64(p.below(9)) / 4
		}
		s.Water[cell] = int64(p.below(int(3 * g.Area(cell))))
		if p.below(dryOf) == 0 {
			s.Water[cell] = one[int64](p, 0, 0, 0, -1, math.MinInt64)
		}
	}
	return s
}

// plan of any numbers, those that can't be among them.
func (p *picker) plan() api.Plan {
	return api.Plan{Dt: one(p, 0.125, 1, p.float()), Gravity: one(p, 9.81, 1, p.float()), Drag: one(p, 0, 0.5, p.float())}
}

// check that a part sees enough of a sea: of each of its edges Open, Speed and Depth are those of the whole sea.
func check(t *testing.T, what string, g *grid.Grid, part Part, s api.Sea, p api.Plan, limiters []int, speeds []float64) {
	t.Helper()
	seen := seenBy(t, what, g, part, s)
	for _, e := range part.Edges {
		if x, y := force.Open(g, seen, e), force.Open(g, s, e); x != y {
			t.Fatalf("%s: edge %d: open %v, want %v", what, e, x, y)
		}
		speed := force.Speed(g, p, s, e)
		if x := force.Speed(g, p, seen, e); math.Float64bits(x) != math.Float64bits(speed) {
			t.Fatalf("%s: edge %d: speed %v, want %v", what, e, x, speed)
		}
		for _, limiter := range limiters {
			for _, u := range append(speeds, speed, s.Speed[e]) {
				x, y := recon.Depth(g, limiter, seen, e, u), recon.Depth(g, limiter, s, e, u)
				if math.Float64bits(x) != math.Float64bits(y) {
					t.Fatalf("%s: edge %d at %v by %d: depth %v, want %v", what, e, u, limiter, x, y)
				}
			}
		}
	}
}

// P22.3: every edge of every part, by every limiter and some that there aren't, water going either way and standing; seas that
// are wet, half dry, nearly dry and of any numbers.
func TestEnough(t *testing.T) {
	p := newPicker()
	limiters := []int{api.Plain, api.Minmod, api.Superbee, api.Leer, -1, 4, first, last}
	speeds := append(floats(), 0.5, -0.5)
	for _, x := range []struct {
		side  int
		parts []int
	}{
		{1, []int{1, 2, 3, 4, 5, 6, 7, 64}},
		{2, []int{1, 2, 3, 5, 6, 7, 23, 24, 64}},
		{3, []int{1, 2, 5, 54, 64}},
		{5, []int{1, 4, 64}},
	} {
		g := made(t, x.side)
		for k, s := range []api.Sea{p.wet(g, 9999), p.wet(g, 8), p.wet(g, 2), p.sea(g)} {
			for _, parts := range x.parts {
				for n, part := range parted(t, g, parts) {
					what := fmt.Sprint("side ", x.side, ", sea ", k, ", part ", n, " of ", parts)
					check(t, what, g, part, s, p.plan(), limiters, speeds)
				}
			}
		}
	}
}

// P22.3: the greatest net, in a few numbers of parts.
func TestEnoughOfTheGreatest(t *testing.T) {
	p := newPicker()
	g := made(t, 32)
	s := p.wet(g, 6)
	for _, parts := range []int{1, 7, 64} {
		list, errno := Split(g, parts)
		if errno != api.OK {
			t.Fatalf("in %d parts: %d", parts, errno)
		}
		for n, part := range list {
			seen, errno := Local(g, part, s)
			if errno != api.OK {
				t.Fatalf("part %d of %d: %d", n, parts, errno)
			}
			plan := p.plan()
			for _, e := range part.Edges {
				x, y := force.Speed(g, plan, seen, e), force.Speed(g, plan, s, e)
				if math.Float64bits(x) != math.Float64bits(y) {
					t.Fatalf("part %d of %d: edge %d: speed %v, want %v", n, parts, e, x, y)
				}
				for _, u := range []float64{1, -1} {
					x, y := recon.Depth(g, api.Leer, seen, e, u), recon.Depth(g, api.Leer, s, e, u)
					if math.Float64bits(x) != math.Float64bits(y) {
						t.Fatalf("part %d of %d: edge %d: depth %v, want %v", n, parts, e, x, y)
					}
				}
			}
		}
	}
}
