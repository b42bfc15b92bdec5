package save

import (
	"math"

	"tarn/api"
)

const (
	last  = math.MaxInt
	first = math.MinInt
	most  = 1 << 52
	least = math.SmallestNonzeroFloat64
)

var (
	inf       = math.Inf(1)
	nan       = math.NaN()
	minusZero = math.Copysign(0, -1)
)

// picker: numbers by a rule of its own, the same ones every time.
type picker uint64

func newPicker() *picker {
	p := picker(0x2545f4914f6cdd1d)
	return &p
}

func (p *picker) next() uint64 {
	s := uint64(*p)
	s ^= s << 13
	s ^= s >> 7
	s ^= s << 17
	*p = picker(s)
	return s
}

// below: from 0 up to ahead of n.
func (p *picker) below(n int) int { return int(p.next() >> 11 % uint64(n)) }

func pickOf[T any](p *picker, from ...T) T { return from[p.below(len(from))] }

// float that a sea keeps, of any of its bits.
func (p *picker) float(top float64) float64 {
	x := math.Float64frombits(p.next() >> 2) // below 2
	if p.below(2) == 0 {
		x = -x
	}
	return pickOf(p, 0, top, -top, least, -least, x, x*top/2, x*top/4)
}

// share of what there is still room for.
func (p *picker) share(room int64) int64 {
	return pickOf(p, 0, 0, 1, room, room/2, int64(p.below(int(room)+1)), int64(p.below(int(room)+1))>>p.below(40))
}

// quanta that can be, together no more than there is room for.
func (p *picker) quanta(list []int64, room int64) int64 {
	for k := range list {
		at := (k + len(list)/3) % len(list) // the first one would often leave no room
		list[at] = min(room, p.share(room))
		room -= list[at]
	}
	return room
}

// sea of a side that can be, of numbers that have all kinds of bytes.
func (p *picker) sea(side int) api.Sea {
	s := empty(side)
	for k := range s.Bed {
		s.Bed[k] = p.float(0x1p20)
	}
	for k := range s.Speed {
		s.Speed[k] = p.float(1024)
	}
	p.quanta(s.Tracer, most)
	s.Sky = min(most, p.share(most))
	p.quanta(s.Water, most-s.Sky)
	s.Step = pickOf(p, 0, 1, 255, 256, 1<<62, 1<<62-1, int(p.next()>>2))
	return s
}

// empty: a sea of noughts.
func empty(side int) api.Sea {
	n := 6 * side * side
	return api.Sea{Bed: make([]float64, n), Water: make([]int64, n), Tracer: make([]int64, n), Speed: make([]float64, 2*n)}
}
