package step

import (
	"fmt"
	"math"
	"slices"
	"testing"

	"tarn/api"
	"tarn/grid"
	"tarn/mass"
)

// picker: numbers by a rule of its own, the same ones every time.
type picker uint64

func newPicker() *picker {
	p := picker(0x9e3779b97f4a7c15)
	return &p
}

func (p *picker) next() uint64 {
	s := uint64(*p)
	s ^= s << 13
	s ^= s >> 7
	s ^= s << 17
	*p = picker(s)
	return s
}

// below: from 0 up to ahead of n.
func (p *picker) below(n int) int { return int(p.next() >> 11 % uint64(n)) }

func one[T any](p *picker, from ...T) T { return from[p.below(len(from))] }

// unit: a float from 0 up to ahead of 1.
func (p *picker) unit() float64 { return float64(p.next()>>11) / (1 << 53) }

// signed: a float from -top to top that a sea keeps.
func (p *picker) signed(top float64) float64 { return top * (2*p.unit() - 1) }

// kinds of seas.
const (
	gentle = iota // about as deep as its beds are high, and slow
	thin          // some quanta a cell, and fast: what goes is cut
	wild          // anything that can be
	full          // as much water and tracer as can be
	lonely        // one wet cell
	kinds
)

// sea of a kind that can be.
func (p *picker) sea(g *grid.Grid, kind int) api.Sea {
	s := dry(g)
	p.beds(s, kind)
	p.fill(g, s, kind)
	for e := range s.Speed {
		switch {
		case kind == gentle:
			s.Speed[e] = p.signed(1)
		case p.below(3) > 0:
			s.Speed[e] = one(p, 1024, -1024, p.signed(1024), p.signed(1024), least, -least)
		}
	}
	s.Step = one(p, 0, 1, 2, 3, 4, 5, 1<<62-1, 1<<62)
	room := most - total(s.Water)
	s.Sky = min(room, one(p, 0, 1, int64(p.below(1000)), room, room/2))
	return s
}

func (p *picker) beds(s api.Sea, kind int) {
	if p.below(4) == 0 {
		return // all +0
	}
	for cell := range s.Bed {
		switch {
		case kind == wild:
			s.Bed[cell] = one(p, 0, 0x1p20, -0x1p20, p.signed(0x1p20), p.signed(0x1p20), least, -least, p.signed(1))
		case p.below(2) == 0:
			s.Bed[cell] = float64(p.below(4))
		default:
			s.Bed[cell] = p.signed(2)
		}
	}
}

func (p *picker) fill(g *grid.Grid, s api.Sea, kind int) {
	cells := len(s.Water)
	room := most / int64(cells)
	for cell := range s.Water {
		if kind == lonely || p.below(6) == 0 {
			continue // dry
		}
		switch kind {
		case gentle:
			s.Water[cell] = one(p, g.Area(cell), int64(3*p.unit()*float64(g.Area(cell))))
			s.Tracer[cell] = one(p, 0, s.Water[cell], int64(p.unit()*0x1p31))
		case thin:
			s.Water[cell] = int64(p.next() >> (40 + p.below(24)))
			s.Tracer[cell] = one(p, 0, s.Water[cell], int64(p.below(100)))
		default:
			s.Water[cell] = int64(p.unit()*float64(room)) >> p.below(40)
			s.Tracer[cell] = int64(p.unit()*float64(room)) >> p.below(40)
		}
	}
	cell := p.below(cells)
	switch kind {
	case full:
		s.Water[cell] += most - total(s.Water)
		s.Tracer[p.below(cells)] += most - total(s.Tracer)
	case lonely:
		s.Water[cell] = one(p, 1, 3, 1000, g.Area(cell)/3, g.Area(cell), most)
		s.Tracer[cell] = one(p, 0, 1, 1000, int64(most/2))
		s.Tracer[p.below(cells)] += int64(p.below(9)) // often where no water is
	}
}

// plan of any numbers that can be, mostly with weather.
func (p *picker) plan(g *grid.Grid, kind int) api.Plan {
	out := api.Plan{Side: g.Side(), Limiter: p.below(4), Rivers: p.below(2) == 0}
	if kind == gentle {
		out.Dt, out.Gravity, out.Drag = 0.01+p.unit()/4, 10*p.unit(), one(p, 0, p.unit())
	} else {
		out.Dt = one(p, least, 0x1p-30, 0.01, 0.5, 1, 1024, 1024*p.unit()+least)
		out.Gravity = one(p, 0, least, 1, 9.81, 1024, 1024*p.unit())
		out.Drag = one(p, 0, least, 0.1, 1, 1024, 1024*p.unit())
	}
	for range p.below(7) {
		from := one(p, 0, p.below(6), 1<<62-1, 1<<62)
		r := api.Rain{Cell: p.below(g.Cells()), From: from, To: one(p, from, from+1, from+3, last)}
		r.Amount = one(p, 0, 1, most, int64(p.next()>>(12+p.below(52)))) * one(p, 1, 1, int64(-1))
		out.Rains = append(out.Rains, r)
	}
	return out
}

// P21.1, P21.2, P21.3: steps of many seas by many plans are those of the model, and keep what is there.
func TestManySeas(t *testing.T) {
	p := newPicker()
	for _, x := range []struct{ side, times int }{{1, 400}, {2, 200}, {3, 100}, {5, 30}, {8, 8}, {32, 1}} {
		g := made(t, x.side)
		for kind := range kinds {
			for k := range x.times {
				stepped(t, fmt.Sprint("side ", x.side, ", kind ", kind, ", sea ", k), g, p.plan(g, kind), p.sea(g, kind))
			}
		}
	}
}

// P21.1: each limiter, with no and with the greatest Gravity and Drag, with speeds at their greatest in both directions.
func TestEnds(t *testing.T) {
	p := newPicker()
	g := made(t, 2)
	for limiter := range 4 {
		for k := range 16 {
			plan := api.Plan{Side: 2, Dt: one(p, 0.5, 1024), Gravity: float64(k % 2 * 1024), Drag: float64(k / 2 % 2 * 1024), Limiter: limiter, Rivers: k >= 8}
			for kind := range kinds {
				s := p.sea(g, kind)
				for e := range s.Speed {
					s.Speed[e] = float64(1024 - 2048*(k/4%2))
				}
				stepped(t, fmt.Sprint("row ", k, ", kind ", kind, ", limiter ", limiter), g, plan, s)
			}
		}
	}
}

// P21.1: limiters show in the flow, so that the plan's is the one that is taken.
func TestLimitersDiffer(t *testing.T) {
	g := made(t, 4)
	s := newPicker().sea(g, gentle)
	p := api.Plan{Side: 4, Dt: 0.1, Gravity: 1}
	var flows []api.Flow
	for p.Limiter = range 4 {
		_, flow := stepped(t, "a limiter", g, p, s)
		for k, other := range flows {
			if sameFlow(flow, other) {
				t.Errorf("limiters %d and %d give one flow", k, p.Limiter)
			}
		}
		flows = append(flows, flow)
	}
}

// P21.2: without weather the flow is what makes the new water and tracer out of the old ones.
func TestFlowMoves(t *testing.T) {
	p := newPicker()
	g := made(t, 3)
	for k := range 60 {
		kind := k % kinds
		plan, s := p.plan(g, kind), p.sea(g, kind)
		plan.Rains, plan.Rivers = nil, false
		next, flow := stepped(t, "flow", g, plan, s)
		water, errno := mass.Move(g, s.Water, flow.Water)
		tracer, other := mass.Move(g, s.Tracer, flow.Tracer)
		if errno != api.OK || other != api.OK || !slices.Equal(water, next.Water) || !slices.Equal(tracer, next.Tracer) || next.Sky != s.Sky {
			t.Errorf("sea %d: the flow doesn't make the sea behind the step", k)
		}
		for e, n := range flow.Water {
			if u := next.Speed[e]; n > 0 && !(u > 0) || n < 0 && !(u < 0) || flow.Tracer[e] != 0 && flow.Tracer[e] > 0 != (n > 0) {
				t.Errorf("sea %d, edge %d: water %d and tracer %d at the speed %v", k, e, n, flow.Tracer[e], u)
			}
		}
	}
}

// P21.1, P21.3: many steps one behind the other, with and without weather.
func TestManySteps(t *testing.T) {
	p := newPicker()
	for _, side := range []int{1, 2, 4} {
		g := made(t, side)
		for kind := range kinds {
			plan, s := p.plan(g, kind), p.sea(g, kind)
			plan.Rivers, s.Step = kind%2 == 0, 0
			for k := range 40 {
				s, _ = stepped(t, fmt.Sprint("side ", side, ", kind ", kind, ", step ", k), g, plan, s)
			}
			if s.Step != 40 {
				t.Errorf("side %d, kind %d: Step %d", side, kind, s.Step)
			}
		}
	}
}

// P21.3: a sea and its sky that together have just as much as can be, through rains down and up again.
func TestAllTheWater(t *testing.T) {
	g := made(t, 2)
	s, p := dry(g), calm(2)
	s.Sky, s.Tracer[7] = most, most
	for cell := range 24 {
		p.Rains = append(p.Rains, api.Rain{Cell: cell, Amount: most / 24, To: 3}, api.Rain{Cell: cell, Amount: -most, From: 5, To: 6})
	}
	p.Rains = append(p.Rains, api.Rain{Cell: 3, Amount: most, From: 2, To: 3})
	for k, sky := range []int64{most - 24*(most/24), 0, 0, 0, 0, most, most} {
		s, _ = stepped(t, fmt.Sprint("step ", k), g, p, s)
		if s.Sky != sky || total(s.Water) != most-sky {
			t.Errorf("step %d: sky %d, water %d", k, s.Sky, total(s.Water))
		}
	}
}

// P21.1: tracer that lies in a dry cell stays there, and goes with water that comes.
func TestTracerWithoutWater(t *testing.T) {
	g := made(t, 1)
	s, p := dry(g), api.Plan{Side: 1, Dt: 1024}
	s.Tracer[0], s.Speed[0], s.Speed[4] = 100, 1024, 1024
	next, flow := stepped(t, "dry", g, p, s)
	if !slices.Equal(next.Tracer, s.Tracer) || !slices.Equal(flow.Tracer, make([]int64, 12)) || !slices.Equal(next.Speed, make([]float64, 12)) {
		t.Errorf("the tracer of a dry cell: %v, %v", next, flow)
	}
	s.Tracer[1], s.Water[0] = 50, 10
	next, _ = stepped(t, "wet", g, p, s)
	if !slices.Equal(next.Water, []int64{0, 10, 0, 0, 0, 0}) || !slices.Equal(next.Tracer, []int64{0, 150, 0, 0, 0, 0}) {
		t.Errorf("water comes to the tracer: %v", next)
	}
	next.Speed[4] = 1024
	next, _ = stepped(t, "wet again", g, p, next)
	if next.Water[2] == 0 || next.Tracer[2] == 0 || math.Signbit(next.Speed[4]) {
		t.Errorf("water goes on with it: %v", next)
	}
}
