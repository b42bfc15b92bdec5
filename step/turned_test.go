package step

import (
	"fmt"
	"testing"

	"tarn/api"
	"tarn/grid"
	"tarn/state"
)

func turned(t *testing.T, side int, s api.Sea, turn int) api.Sea {
	t.Helper()
	out, errno := state.Turned(side, s, turn)
	if errno != api.OK {
		t.Fatalf("turn %d of a sea that a step answers, or begins with: error %d", turn, errno)
	}
	return out
}

// alike: whether the steps of a sea, turned behind them, are those of the sea turned ahead of them, for all turns.
func alike(t *testing.T, what string, g *grid.Grid, p api.Plan, s api.Sea, steps int) {
	t.Helper()
	behind := s
	for range steps {
		behind, _ = stepped(t, what, g, p, behind)
	}
	for turn := range 24 {
		ahead := turned(t, g.Side(), s, turn)
		for range steps {
			next, errno := One(g, p, ahead)
			if errno != api.OK {
				t.Fatalf("%s, turn %d: error %d", what, turn, errno)
			}
			ahead = next
		}
		if want := turned(t, g.Side(), behind, turn); !same(ahead, want) {
			t.Fatalf("%s, by %v, turn %d:\n%v, want\n%v", what, p, turn, ahead, want)
		}
	}
}

// P21.5: seas of all kinds without tracer, by plans of all kinds without weather.
func TestAllFacesAlike(t *testing.T) {
	p := newPicker()
	for _, x := range []struct{ side, times int }{{1, 12}, {2, 8}, {3, 6}, {4, 3}, {6, 1}} {
		g := made(t, x.side)
		for kind := range kinds {
			for k := range x.times {
				plan, s := p.plan(g, kind), p.sea(g, kind)
				plan.Rains, plan.Rivers = nil, false
				clear(s.Tracer)
				alike(t, fmt.Sprint("side ", x.side, ", kind ", kind, ", sea ", k), g, plan, s, 1+k%3)
			}
		}
	}
}

// P21.5, DOC.md's tenth example: a pond with one high cell, by each limiter, for some steps.
func TestHillsAlike(t *testing.T) {
	for _, side := range []int{1, 2, 3, 4} {
		g := made(t, side)
		for limiter := range 4 {
			p, s := calm(side), pond(g, 1)
			p.Limiter, p.Dt, p.Drag = limiter, 0.125, 0.5
			s.Water[side*side/2] *= 3
			alike(t, fmt.Sprint("a hill, side ", side, ", limiter ", limiter), g, p, s, 6)
		}
	}
}
