package split

import (
	"fmt"
	"math"
	"slices"
	"testing"

	"tarn/api"
	"tarn/grid"
)

// picker: numbers by a rule of its own, the same ones every time.
type picker uint64

func newPicker() *picker {
	p := picker(0x9e3779b97f4a7c15)
	return &p
}

func (p *picker) next() uint64 {
	s := uint64(*p)
	s ^= s << 13
	s ^= s >> 7
	s ^= s << 17
	*p = picker(s)
	return s
}

// below: from 0 up to ahead of n.
func (p *picker) below(n int) int { return int(p.next() >> 11 % uint64(n)) }

func one[T any](p *picker, from ...T) T { return from[p.below(len(from))] }

// floats that are no ordinary ones: noughts, ends, infinities, NaNs of many bits.
func floats() []float64 {
	out := []float64{0, math.SmallestNonzeroFloat64, math.MaxFloat64, math.Inf(1), 1, 1024, 0x1p20}
	for _, b := range []uint64{0x7ff0000000000001, 0x7ff4000000000002, 0x7ff8000000000000, api.QuietNaN, 0x7fffffffffffffff} {
		out = append(out, math.Float64frombits(b))
	}
	for _, x := range slices.Clone(out) {
		out = append(out, math.Copysign(x, -1))
	}
	return out
}

// float: half of them ordinary.
func (p *picker) float() float64 {
	if p.below(2) == 0 {
		return one(p, floats()...)
	}
	return float64(p.below(4001)-2000) / 512
}

// sea that fits, of any numbers.
func (p *picker) sea(g *grid.Grid) api.Sea {
	s := api.Sea{Sky: int64(p.next()), Step: int(p.next())}
	for range g.Cells() {
		s.Bed = append(s.Bed, p.float())
		s.Water = append(s.Water, one(p, math.MinInt64, -1, 0, 1, math.MaxInt64, int64(p.next())))
		s.Tracer = append(s.Tracer, one(p, math.MinInt64, -1, 0, 1, math.MaxInt64, int64(p.next())))
	}
	for range g.Edges() {
		s.Speed = append(s.Speed, p.float())
	}
	return s
}

// words of a sea: lengths and bits.
func words(s api.Sea) []uint64 {
	out := []uint64{uint64(len(s.Bed)), uint64(len(s.Water)), uint64(len(s.Tracer)), uint64(len(s.Speed)), uint64(s.Sky), uint64(s.Step)}
	for _, list := range [][]float64{s.Bed, s.Speed} {
		for _, x := range list {
			out = append(out, math.Float64bits(x))
		}
	}
	for _, list := range [][]int64{s.Water, s.Tracer} {
		for _, n := range list {
			out = append(out, uint64(n))
		}
	}
	return out
}

func same(x, y api.Sea) bool { return slices.Equal(words(x), words(y)) }

// seenBy: the sea as a part sees it, held against the model.
func seenBy(t *testing.T, what string, g *grid.Grid, p Part, s api.Sea) api.Sea {
	t.Helper()
	seen, errno := Local(g, p, s)
	if errno != api.OK {
		t.Fatalf("%s: Local of %v: error %d", what, p, errno)
	}
	if want := modelLocal(p, s); !same(seen, want) {
		t.Fatalf("%s: Local of %v and\n%v is\n%v, want\n%v", what, p, s, seen, want)
	}
	return seen
}

// refused: whether Local answers this error and nothing beside it.
func refused(t *testing.T, g *grid.Grid, p Part, s api.Sea, want api.Errno, what string) {
	t.Helper()
	if seen, errno := Local(g, p, s); errno != want || !same(seen, api.Sea{}) {
		t.Errorf("%s: Local is %v, %d, want %d", what, seen, errno, want)
	}
}

// P22.1: the parts of Split, over seas of any numbers.
func TestLocalOfSplit(t *testing.T) {
	p := newPicker()
	for side, times := range map[int]int{1: 20, 2: 10, 3: 4, 7: 1} {
		g := made(t, side)
		for range times {
			s := p.sea(g)
			for _, parts := range []int{1, 2, 5, 6, 24, 64} {
				for k, part := range parted(t, g, parts) {
					seenBy(t, fmt.Sprint("part ", k, " of ", parts), g, part, s)
				}
			}
		}
	}
	g := made(t, 32)
	for _, part := range parted(t, g, 64)[60:] {
		seenBy(t, "side 32", g, part, p.sea(g))
	}
}

// P22.1: one part has the whole sea but for the sky; a part of nothing sees nothing.
func TestLocalOfAllAndNothing(t *testing.T) {
	p := newPicker()
	for side := 1; side <= 3; side++ {
		g := made(t, side)
		s := p.sea(g)
		seen := seenBy(t, "all", g, Part{Cells: upTo(g.Cells()), Edges: upTo(g.Edges())}, s)
		seen.Sky = s.Sky
		if !same(seen, s) {
			t.Errorf("side %d: one part doesn't see all: %v of %v", side, seen, s)
		}
		halo := seenBy(t, "all as a halo", g, Part{Halo: upTo(g.Cells()), Edges: upTo(g.Edges())}, s)
		if halo.Sky = s.Sky; !same(halo, s) {
			t.Errorf("side %d: a halo doesn't show all: %v of %v", side, halo, s)
		}
		cells, edges := g.Cells(), g.Edges()
		nothing := api.Sea{Bed: make([]float64, cells), Water: make([]int64, cells), Tracer: make([]int64, cells), Speed: make([]float64, edges), Step: s.Step}
		for _, part := range []Part{{}, {Cells: []int{}, Edges: []int{}, Halo: []int{}}} {
			if seen := seenBy(t, "nothing", g, part, s); !same(seen, nothing) {
				t.Errorf("side %d: a part of nothing sees %v", side, seen)
			}
		}
	}
}

// P22.1: lists of any order, with numbers twice, the same number in Cells and Halo, and edges that aren't those of the cells.
func TestLocalOfAnyLists(t *testing.T) {
	p := newPicker()
	g := made(t, 2)
	s := p.sea(g)
	for _, part := range []Part{
		{Cells: []int{3}, Edges: []int{5, 5}, Halo: []int{1, 3}},
		{Cells: []int{23, 0, 23, 7, 0}},
		{Halo: []int{23, 23, 22, 0}},
		{Edges: []int{47, 0, 47, 3}},
		{Cells: []int{5, 4}, Edges: []int{40, 2, 40}, Halo: []int{9, 4, 5, 9}},
	} {
		seenBy(t, "by hand", g, part, s)
	}
	some := func(n int) []int {
		var out []int
		for range p.below(12) {
			out = append(out, p.below(n))
		}
		return out
	}
	for range 300 {
		seenBy(t, "any", g, Part{some(24), some(48), some(24)}, s)
	}
}

// P22.1: of every place by itself: a cell shows bed, water and tracer, an edge its speed, whatever bits they have.
func TestLocalOfOnePlace(t *testing.T) {
	g := made(t, 1)
	for _, x := range floats() {
		s := newPicker().sea(g)
		for k := range s.Bed {
			s.Bed[k] = x
		}
		for k := range s.Speed {
			s.Speed[k] = x
		}
		for cell := range 6 {
			for _, part := range []Part{{Cells: []int{cell}}, {Halo: []int{cell}}} {
				seen := seenBy(t, "a cell", g, part, s)
				if math.Float64bits(seen.Bed[cell]) != math.Float64bits(x) || seen.Water[cell] != s.Water[cell] || seen.Tracer[cell] != s.Tracer[cell] {
					t.Errorf("cell %d of a bed of %x: %v", cell, math.Float64bits(x), seen)
				}
			}
		}
		for e := range 12 {
			if seen := seenBy(t, "an edge", g, Part{Edges: []int{e}}, s); math.Float64bits(seen.Speed[e]) != math.Float64bits(x) {
				t.Errorf("edge %d of a speed of %x: %v", e, math.Float64bits(x), seen)
			}
		}
	}
}

// P22.1: Sky is left behind and Step is kept, at both ends too.
func TestLocalOfSkyAndStep(t *testing.T) {
	g := made(t, 1)
	s := newPicker().sea(g)
	for _, step := range []int{first, -1, 0, 1, 9, 1 << 62, 1<<62 + 1, last} {
		for _, sky := range []int64{math.MinInt64, -1, 0, 7, 1 << 52, math.MaxInt64} {
			s.Step, s.Sky = step, sky
			for _, part := range []Part{{}, {Cells: upTo(6), Edges: upTo(12)}} {
				if seen := seenBy(t, "ends", g, part, s); seen.Step != step || seen.Sky != 0 {
					t.Errorf("Step %d and Sky %d: %d and %d", step, sky, seen.Step, seen.Sky)
				}
			}
		}
	}
}

// Local refuses numbers of no cell and of no edge, in each list, whatever else is in it.
func TestLocalRefusesNumbers(t *testing.T) {
	for side := 1; side <= 2; side++ {
		g := made(t, side)
		s := newPicker().sea(g)
		cells, edges := g.Cells(), g.Edges()
		for _, k := range []int{-1, -2, first, first + 1, cells, cells + 1, edges, 1 << 32, 1<<32 + 1, last - 1, last} {
			for _, list := range [][]int{{k}, {0, 1, k}, {k, 0, 1}, {0, k, k, 0}} {
				what := fmt.Sprint("side ", side, ", ", list)
				refused(t, g, Part{Cells: list}, s, api.ErrArg, what+" as Cells")
				refused(t, g, Part{Halo: list}, s, api.ErrArg, what+" as Halo")
				refused(t, g, Part{Cells: upTo(cells), Edges: upTo(edges), Halo: list}, s, api.ErrArg, what+" as Halo with all others")
				refused(t, g, Part{Cells: list, Edges: list, Halo: list}, s, api.ErrArg, what+" as all three")
				refused(t, nil, Part{Cells: list, Edges: list, Halo: list}, s, api.ErrNil, what+" of no net")
				if k >= 0 && k < edges {
					seenBy(t, what, g, Part{Edges: list}, s) // an edge may have a number that no cell has
					continue
				}
				refused(t, g, Part{Edges: list}, s, api.ErrArg, what+" as Edges")
				refused(t, g, Part{Cells: upTo(cells), Edges: list}, s, api.ErrArg, what+" as Edges with all cells")
			}
		}
		seenBy(t, "the last ones", g, Part{Cells: []int{cells - 1}, Edges: []int{edges - 1}, Halo: []int{cells - 1}}, s)
		refused(t, g, Part{Edges: []int{edges}}, s, api.ErrArg, "just beyond the last edge")
	}
}

// Local refuses a sea whose lists don't fit, each alone; a nil net comes ahead of that.
func TestLocalRefusesSeas(t *testing.T) {
	g := made(t, 2)
	for _, part := range []Part{{}, {Cells: []int{0}, Edges: []int{0}, Halo: []int{1}}, {Cells: []int{24}}} {
		for what, spoilt := range map[string]func(s *api.Sea){
			"no beds":             func(s *api.Sea) { s.Bed = nil },
			"a bed too few":       func(s *api.Sea) { s.Bed = s.Bed[:23] },
			"a bed too many":      func(s *api.Sea) { s.Bed = append(s.Bed, 0) },
			"a bed for each edge": func(s *api.Sea) { s.Bed = append(s.Bed, s.Bed...) },
			"no waters":           func(s *api.Sea) { s.Water = nil },
			"a water too few":     func(s *api.Sea) { s.Water = s.Water[:23] },
			"a water too many":    func(s *api.Sea) { s.Water = append(s.Water, 0) },
			"no tracers":          func(s *api.Sea) { s.Tracer = nil },
			"a tracer too few":    func(s *api.Sea) { s.Tracer = s.Tracer[:23] },
			"a tracer too many":   func(s *api.Sea) { s.Tracer = append(s.Tracer, 0) },
			"no speeds":           func(s *api.Sea) { s.Speed = nil },
			"a speed too few":     func(s *api.Sea) { s.Speed = s.Speed[:47] },
			"a speed too many":    func(s *api.Sea) { s.Speed = append(s.Speed, 0) },
			"a speed for a cell":  func(s *api.Sea) { s.Speed = s.Speed[:24] },
			"nothing":             func(s *api.Sea) { *s = api.Sea{} },
			"another side":        func(s *api.Sea) { *s = newPicker().sea(made(t, 1)) },
		} {
			s := newPicker().sea(g)
			spoilt(&s)
			refused(t, g, part, s, api.ErrArg, what)
			refused(t, nil, part, s, api.ErrNil, what+", no net")
		}
	}
	refused(t, nil, Part{}, api.Sea{}, api.ErrNil, "nothing at all")
	refused(t, nil, Part{Cells: upTo(24)}, newPicker().sea(g), api.ErrNil, "no net")
}

// Parts and seas of many kinds, mostly near to what is taken: taken or refused as the model says.
func TestLocalTakes(t *testing.T) {
	p := newPicker()
	g := made(t, 1)
	around := func(n int) []int {
		var out []int
		for range p.below(4) {
			out = append(out, p.below(n+1)-p.below(8)/7)
		}
		return out
	}
	taken := 0
	for range 4000 {
		s := p.sea(g)
		if p.below(4) == 0 {
			s.Speed = s.Speed[:12-p.below(2)]
			s.Tracer = s.Tracer[:6-p.below(2)]
		}
		part := Part{around(6), around(12), around(6)}
		if modelTakes(g, part, s) {
			seenBy(t, "taken", g, part, s)
			taken++
			continue
		}
		refused(t, g, part, s, api.ErrArg, fmt.Sprint(part))
	}
	if taken < 400 || taken > 3600 {
		t.Errorf("only %d of 4000 were taken: nothing is told by that", taken)
	}
}
