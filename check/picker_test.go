package check

import (
	"math"
	"slices"
	"testing"

	"tarn/api"
	"tarn/grid"
	"tarn/level"
	"tarn/state"
)

const (
	last  = math.MaxInt
	first = math.MinInt
	most  = 1 << 52
	area  = 1431655765 // of each cell of the net of side 1
	least = math.SmallestNonzeroFloat64
)

var (
	inf       = math.Inf(1)
	nan       = math.NaN()
	minusZero = math.Copysign(0, -1)
)

func netOf(t *testing.T, side int) *grid.Grid {
	t.Helper()
	g, errno := grid.New(side)
	if errno != api.OK {
		t.Fatalf("grid.New(%d): %d", side, errno)
	}
	return g
}

// empty: a sea of noughts.
func empty(side int) api.Sea {
	n := 6 * side * side
	return api.Sea{Bed: make([]float64, n), Water: make([]int64, n), Tracer: make([]int64, n), Speed: make([]float64, 2*n)}
}

// planOf a side, in which nothing falls and nothing runs.
func planOf(side int) api.Plan { return api.Plan{Side: side, Dt: 0.5, Gravity: 10} }

// picker: numbers by a rule of its own, the same ones every time.
type picker uint64

func newPicker() *picker {
	p := picker(0x2545f4914f6cdd1d)
	return &p
}

func (p *picker) next() uint64 {
	s := uint64(*p)
	s ^= s << 13
	s ^= s >> 7
	s ^= s << 17
	*p = picker(s)
	return s
}

// below: from 0 up to ahead of n.
func (p *picker) below(n int) int { return int(p.next() >> 11 % uint64(n)) }

func pickOf[T any](p *picker, from ...T) T { return from[p.below(len(from))] }

// unit: a float from 0 up to ahead of 1.
func (p *picker) unit() float64 { return float64(p.next()>>11) / (1 << 53) }

// signed: a float from -top to top.
func (p *picker) signed(top float64) float64 { return top * (2*p.unit() - 1) }

// kinds of seas.
const (
	gentle = iota // about as deep as its beds are high, and slow
	thin          // some quanta in each cell
	wild          // anything that can be, much of it dry
	full          // as much water and tracer as can be
	lonely        // one wet cell
	dry           // no water at all
	kinds
)

// sea of a kind that can be.
func (p *picker) sea(g *grid.Grid, kind int) api.Sea {
	s := empty(g.Side())
	for cell := range s.Bed {
		s.Bed[cell] = pickOf(p, 0, p.signed(2), float64(p.below(4)))
		if kind == wild {
			s.Bed[cell] = pickOf(p, 0, 0x1p20, -0x1p20, p.signed(0x1p20), least, -least)
		}
	}
	p.fill(g, s, kind)
	for e := range s.Speed {
		s.Speed[e] = p.signed(1)
		if kind != gentle {
			s.Speed[e] = pickOf(p, 0, 0, 1024, -1024, p.signed(1024), least, -least)
		}
	}
	s.Step = pickOf(p, 0, 1, 1<<62)
	room := most - total(s.Water).Int64()
	s.Sky = min(room, pickOf(p, 0, 1, int64(p.below(1000)), room, room/2))
	return s
}

func (p *picker) fill(g *grid.Grid, s api.Sea, kind int) {
	room := float64(most / len(s.Water))
	for cell := range s.Water {
		s.Tracer[cell] = pickOf(p, 0, s.Water[cell], int64(p.below(100)), int64(p.unit()*room))
		switch {
		case kind == thin:
			s.Water[cell] = int64(p.next() >> (40 + p.below(24)))
		case kind == dry || kind == lonely || p.below(6) == 0:
			// no water
		case kind == gentle:
			s.Water[cell] = pickOf(p, g.Area(cell), int64(3*p.unit()*float64(g.Area(cell))))
		default:
			s.Water[cell] = int64(p.unit()*room) >> p.below(40)
		}
	}
	cell, other := p.below(len(s.Water)), p.below(len(s.Water))
	switch kind {
	case full:
		s.Water[cell] += most - total(s.Water).Int64()
		s.Tracer[other] += most - total(s.Tracer).Int64()
	case lonely:
		s.Water[cell] = pickOf(p, 1, 3, 1000, g.Area(cell)/3, g.Area(cell), most)
	}
}

// lake of layer 20: over whole beds, or over any.
func (p *picker) lake(t *testing.T, side int, whole bool) api.Sea {
	t.Helper()
	bed, height := make([]float64, 6*side*side), p.signed(5)
	if whole {
		height = math.Floor(height)
	}
	for cell := range bed {
		bed[cell] = pickOf(p, p.signed(10), height, height-p.unit())
		if whole {
			bed[cell] = float64(p.below(21) - 10)
		}
		if bed[cell] == 0 {
			bed[cell] = 0 // not -0
		}
	}
	s, errno := state.Lake(side, bed, height)
	if errno != api.OK {
		t.Fatalf("a lake of side %d: %d", side, errno)
	}
	return s
}

// levelled: a sea without speeds whose beds are laid below its waters, so that all levels come out at a height, as far as
// floats allow; dry cells stand there, too, or above it. Wet islands of another height are among them.
func (p *picker) levelled(g *grid.Grid) api.Sea {
	s, height := empty(g.Side()), pickOf(p, 1, 1.25, 3, -7.5, 0, 1000, p.signed(4))
	for cell := range s.Bed {
		s.Water[cell] = pickOf(p, 0, 0, 1, g.Area(cell), int64(p.below(1<<31)), int64(p.below(1<<20)))
		s.Bed[cell] = height - level.Depth(s.Water[cell], g.Area(cell))
		if s.Water[cell] == 0 {
			s.Bed[cell] = pickOf(p, height, math.Nextafter(height, inf), height+p.unit(), 0x1p20)
		}
		if s.Bed[cell] == 0 {
			s.Bed[cell] = 0 // not -0
		}
	}
	return s
}

// disturb a sea at one place, by as little as there is.
func (p *picker) disturb(s api.Sea) {
	cell := p.below(len(s.Bed))
	switch p.below(5) {
	case 0:
		s.Bed[cell] = math.Nextafter(s.Bed[cell], pickOf(p, inf, -inf))
		if s.Bed[cell] == 0 || s.Bed[cell] > 0x1p20 {
			s.Bed[cell] = 1
		}
	case 1:
		s.Water[cell]++
	case 2:
		s.Water[cell] = max(0, s.Water[cell]-1)
	case 3:
		s.Speed[p.below(len(s.Speed))] = pickOf(p, least, -least, 1, -1024)
	case 4:
		s.Water[cell] = 0
	}
}

// quanta: raw ones of both signs, most of them great.
func (p *picker) quanta(n int) []int64 {
	list := make([]int64, n)
	for k := range list {
		list[k] = pickOf(p, 0, 1, -1, last, first, last-int64(p.below(3)), first+int64(p.below(3)), int64(p.next()), int64(p.next()))
	}
	return list
}

// parted: a list of the same sum, of other numbers, in another order.
func (p *picker) parted(list []int64) []int64 {
	out := slices.Clone(list)
	slices.Reverse(out)
	for range 1 + p.below(5) {
		n := int64(p.next()) >> 2
		out = append(out, n, -n)
	}
	for k, n := range out {
		if half := n / 2; p.below(2) == 0 {
			out[k] = half
			out = append(out, n-half)
		}
	}
	return out
}
