package tile

import (
	"math"

	"tarn/api"
)

const (
	last  = math.MaxInt
	first = math.MinInt
	full  = 1 << 52
	least = math.SmallestNonzeroFloat64
	one   = 0x3f800000 // the bits of 1
	top   = 0x7f7fffff // the bits of the greatest finite float of 32 bits
)

var (
	inf       = math.Inf(1)
	nan       = math.NaN()
	minusZero = math.Copysign(0, -1)
)

// picker: numbers by a rule of its own, the same ones every time.
type picker uint64

func newPicker() *picker {
	p := picker(0x2545f4914f6cdd1d)
	return &p
}

func (p *picker) next() uint64 {
	s := uint64(*p)
	s ^= s << 13
	s ^= s >> 7
	s ^= s << 17
	*p = picker(s)
	return s
}

// below: from 0 up to ahead of n.
func (p *picker) below(n int) int { return int(p.next() >> 11 % uint64(n)) }

func pickOf[T any](p *picker, from ...T) T { return from[p.below(len(from))] }

// depth: bits that can be.
func (p *picker) depth() uint32 {
	return pickOf(p, 0, 1, top, 0x007fffff, 0x00800000, one, uint32(p.below(0x7f800000)), uint32(p.below(0x7f800000)))
}

// tile that can be.
func (p *picker) tile(n int) api.Tile {
	cells := make([]uint32, n*n)
	flat := p.below(4) == 0
	for k := range cells {
		if k > 0 && flat {
			cells[k] = cells[k-1]
		} else {
			cells[k] = p.depth()
		}
	}
	return tileOf(p.below(6), cells...)
}

// sea of a side that can be, with all that a tile doesn't tell of, too.
func (p *picker) sea(side int) api.Sea {
	s := dry(side)
	room, gives := int64(full/len(s.Water)), p.below(40)
	for cell := range s.Water {
		s.Bed[cell] = float64(p.below(0x200001)) - 0x100000
		s.Tracer[cell] = int64(p.below(1000))
		if p.below(5) > 0 {
			s.Water[cell] = int64(p.below(int(room>>gives)+1)) >> p.below(20)
		}
	}
	for e := range s.Speed {
		s.Speed[e] = float64(p.below(2049)) - 1024
	}
	s.Step = p.below(1 << 40)
	return s
}

func dry(side int) api.Sea {
	cells := 6 * side * side
	return api.Sea{Bed: make([]float64, cells), Water: make([]int64, cells), Tracer: make([]int64, cells), Speed: make([]float64, 2*cells)}
}
