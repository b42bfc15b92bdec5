package work

import (
	"math"

	"tarn/api"
	"tarn/grid"
)

const (
	last  = math.MaxInt
	first = math.MinInt
	most  = 1 << 52
	least = math.SmallestNonzeroFloat64
)

// picker: numbers by a rule of its own, the same ones every time.
type picker uint64

func newPicker() *picker {
	p := picker(0x2545f4914f6cdd1d)
	return &p
}

func (p *picker) next() uint64 {
	s := uint64(*p)
	s ^= s << 13
	s ^= s >> 7
	s ^= s << 17
	*p = picker(s)
	return s
}

// below: from 0 up to ahead of n.
func (p *picker) below(n int) int { return int(p.next() >> 11 % uint64(n)) }

func one[T any](p *picker, from ...T) T { return from[p.below(len(from))] }

// unit: a float from 0 up to ahead of 1.
func (p *picker) unit() float64 { return float64(p.next()>>11) / (1 << 53) }

// signed: a float from -top to top, never -0.
func (p *picker) signed(top float64) float64 { return top * (2*p.unit() - 1) }

// order of so many parts.
func (p *picker) order(parts int) []int {
	list := upTo(parts)
	for k := range list {
		other := k + p.below(parts-k)
		list[k], list[other] = list[other], list[k]
	}
	return list
}

// kinds of seas.
const (
	gentle = iota // about as deep as its beds are high, and slow
	thin          // some quanta in each cell, and fast: what goes is cut
	wild          // anything that can be, much of it dry
	full          // as much water and tracer as can be
	lonely        // one wet cell
	empty         // no water at all
	kinds
)

// sea of a kind that can be.
func (p *picker) sea(g *grid.Grid, kind int) api.Sea {
	s := dry(g)
	p.beds(s, kind)
	p.fill(g, s, kind)
	for e := range s.Speed {
		if kind == gentle {
			s.Speed[e] = p.signed(1)
		} else if p.below(4) > 0 {
			s.Speed[e] = one(p, 1024, -1024, p.signed(1024), p.signed(1024), p.signed(1), least, -least)
		}
	}
	s.Step = one(p, 0, 1, 2, 3, 4, 5, 1<<62-1, 1<<62)
	room := most - total(s.Water)
	s.Sky = min(room, one(p, 0, 1, int64(p.below(1000)), room, room/2))
	return s
}

func (p *picker) beds(s api.Sea, kind int) {
	if p.below(4) == 0 {
		return // all +0
	}
	for cell := range s.Bed {
		switch {
		case kind == wild:
			s.Bed[cell] = one(p, 0, 0x1p20, -0x1p20, p.signed(0x1p20), p.signed(0x1p20), least, -least, p.signed(1))
		case p.below(2) == 0:
			s.Bed[cell] = float64(p.below(4))
		default:
			s.Bed[cell] = p.signed(2)
		}
	}
}

func (p *picker) fill(g *grid.Grid, s api.Sea, kind int) {
	room := int64(most / len(s.Water))
	for cell := range s.Water {
		switch {
		case kind == thin:
			s.Water[cell] = int64(p.next() >> (40 + p.below(24)))
			s.Tracer[cell] = one(p, 0, s.Water[cell], int64(p.below(100)))
		case kind == empty:
			s.Tracer[cell] = int64(p.below(100))
		case kind == lonely || p.below(6) == 0:
			// dry
		case kind == gentle:
			s.Water[cell] = one(p, g.Area(cell), int64(3*p.unit()*float64(g.Area(cell))))
			s.Tracer[cell] = one(p, 0, s.Water[cell], int64(p.unit()*0x1p31))
		default:
			s.Water[cell] = int64(p.unit()*float64(room)) >> p.below(40)
			s.Tracer[cell] = int64(p.unit()*float64(room)) >> p.below(40)
		}
	}
	cell, other := p.below(len(s.Water)), p.below(len(s.Water))
	switch kind {
	case full:
		s.Water[cell] += most - total(s.Water)
		s.Tracer[other] += most - total(s.Tracer)
	case lonely:
		s.Water[cell] = one(p, 1, 3, 1000, g.Area(cell)/3, g.Area(cell), most)
		s.Tracer[cell] = one(p, 0, 1, 1000, int64(most/2))
		s.Tracer[other] += int64(p.below(9)) // often where no water is
	}
}

// plan of any numbers that can be, mostly with weather.
func (p *picker) plan(g *grid.Grid, kind int) api.Plan {
	out := api.Plan{Side: g.Side(), Limiter: p.below(4), Rivers: p.below(2) == 0}
	if kind == gentle {
		out.Dt, out.Gravity, out.Drag = 0.01+p.unit()/4, 10*p.unit(), one(p, 0, p.unit())
	} else {
		out.Dt = one(p, least, 0x1p-30, 0.01, 0.5, 1, 1024, 1024*p.unit()+least)
		out.Gravity = one(p, 0, least, 1, 9.81, 1024, 1024*p.unit())
		out.Drag = one(p, 0, least, 0.1, 1, 1024, 1024*p.unit())
	}
	for range p.below(7) {
		from := one(p, 0, p.below(6), 1<<62-1, 1<<62)
		r := api.Rain{Cell: p.below(g.Cells()), From: from, To: one(p, from, from+1, from+3, last)}
		r.Amount = one(p, 0, 1, most, int64(p.next()>>(12+p.below(52)))) * one(p, 1, 1, int64(-1))
		out.Rains = append(out.Rains, r)
	}
	return out
}
