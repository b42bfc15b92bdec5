package recon

import (
	"math"
	"slices"
	"sync"
	"testing"

	"tarn/api"
	"tarn/cube"
	"tarn/grid"
)

const (
	least    = math.SmallestNonzeroFloat64
	greatest = math.MaxFloat64
)

func same(x, y float64) bool { return math.Float64bits(x) == math.Float64bits(y) }

func sameLists(x, y []float64) bool { return slices.EqualFunc(x, y, same) }

func made(t *testing.T, side int) *grid.Grid {
	t.Helper()
	g, err := grid.New(side)
	if g == nil || err != api.OK {
		t.Fatalf("grid.New(%d) is %v, %d", side, g, err)
	}
	return g
}

func kinds() []int { return []int{api.Plain, api.Minmod, api.Superbee, api.Leer} }

// wild: limiters that there are not.
func wild() []int {
	return []int{math.MinInt, math.MinInt + 1, -1 << 32, -1<<32 + 1, -256, -3, -2, -1, 4, 5, 6, 7, 255, 256, 257, 1 << 32, 1<<32 + 1, 1<<32 + 2, math.MaxInt - 1, math.MaxInt}
}

func nans() []float64 {
	var out []float64
	for _, b := range []uint64{0x7ff0000000000001, 0x7ff8000000000000, api.QuietNaN, 0x7fffffffffffffff} {
		out = append(out, math.Float64frombits(b), math.Float64frombits(b|1<<63))
	}
	return out
}

// standing: speeds at which nothing goes.
func standing() []float64 { return append(nans(), 0, math.Copysign(0, -1)) }

// going: speeds above 0.
func going() []float64 {
	return []float64{least, 0x1p-1022, 0.25, 1, api.MaxSpeed, greatest, math.Inf(1)}
}

// picker: numbers by a rule of its own, the same ones every time.
type picker uint64

func (p *picker) next() uint64 {
	s := uint64(*p)
	s ^= s << 13
	s ^= s >> 7
	s ^= s << 17
	*p = picker(s)
	return s
}

func pick[T any](p *picker, from []T) T { return from[p.next()>>11%uint64(len(from))] }

// bed: mostly an ordinary one, at times the ends, noughts, infinities and NaNs.
func (p *picker) bed() float64 {
	switch p.next() >> 20 % 8 {
	case 0:
		return pick(p, append(nans(), 0, math.Copysign(0, -1), math.Inf(1), math.Inf(-1), greatest, -greatest, least, -least, 1e16, -1e16, api.MaxHeight, -api.MaxHeight))
	case 1, 2, 3:
		return pick(p, []float64{0, math.Copysign(0, -1), 0.1, -0.1, 0.5, 1, -1, 1.5, 2, 3, -7.25})
	}
	return math.Ldexp(float64(int64(p.next()))/0x1p63, int(p.next()>>20%6)-2)
}

// water of a cell of this area: mostly so much that depths are of the beds' size, at times nothing, less, or very much.
func (p *picker) water(area int64) int64 {
	switch p.next() >> 20 % 8 {
	case 0:
		return pick(p, []int64{math.MinInt64, math.MinInt64 + 1, -1 << 53, -1, 0, 1, 2, 3, api.MaxWater - 1, api.MaxWater, 1<<53 + 1, math.MaxInt64 - 511, math.MaxInt64})
	case 1, 2, 3:
		return area * int64(p.next()>>20%6)
	}
	return int64(p.next() >> 20 % uint64(5*area))
}

// sea that fits g's cells.
func (p *picker) sea(g *grid.Grid) api.Sea {
	s := api.Sea{Bed: make([]float64, g.Cells()), Water: make([]int64, g.Cells())}
	for cell := range s.Bed {
		s.Bed[cell], s.Water[cell] = p.bed(), p.water(g.Area(cell))
	}
	return s
}

func newPicker() *picker {
	p := picker(0x9e3779b97f4a7c15)
	return &p
}

// row: what stands along edge 0 of the net of side 1: behind its Left, Left, Right, behind its Right: depths that are
// whole numbers, and the beds of Left and Right.
type row struct {
	depths      [4]int64
	left, right float64
}

func (r row) sea(g *grid.Grid) api.Sea {
	s := api.Sea{Bed: make([]float64, 6), Water: make([]int64, 6)}
	for k, cell := range [4]int{3, 0, 1, 2} {
		s.Water[cell] = r.depths[k] * g.Area(cell)
	}
	s.Bed[0], s.Bed[1] = r.left, r.right
	return s
}

// The chapter's examples.
func TestExamples(t *testing.T) {
	g := made(t, 1)
	slope := -4.0 / 3 // rounded here, ahead of the sum
	leer := 2 + float64(0.5*slope)
	for _, x := range []struct {
		row
		u    float64
		want [4]float64 // by limiters
	}{
		{row{depths: [4]int64{1, 1, 2, 1}}, 1, [4]float64{1, 1, 1, 1}},
		{row{depths: [4]int64{1, 1, 2, 1}}, -1, [4]float64{2, 2, 2, 2}},
		{row{depths: [4]int64{1, 1, 2, 1}}, 0, [4]float64{}},
		{row{depths: [4]int64{1, 1, 2, 1}}, math.Copysign(0, -1), [4]float64{}},
		{row{depths: [4]int64{1, 1, 2, 1}}, math.NaN(), [4]float64{}},
		{row{[4]int64{1, 1, 2, 1}, 0.5, 0}, -1, [4]float64{1.5, 1.5, 1.5, 1.5}},
		{row{[4]int64{1, 1, 2, 1}, 5, 0}, -1, [4]float64{}},
		{row{[4]int64{1, 1, 2, 1}, 0, 5}, 1, [4]float64{}},
		{row{depths: [4]int64{2, 3, 2, 1}}, 1, [4]float64{3, 3, 3, 3}},
		{row{depths: [4]int64{4, 2, 1, 1}}, 1, [4]float64{2, 1.5, 1, leer}},
		{row{depths: [4]int64{1, 2, 4, 1}}, 1, [4]float64{2, 2, 2, 2}},
	} {
		for _, k := range kinds() {
			if d := Depth(g, k, x.sea(g), 0, x.u); !same(d, x.want[k]) {
				t.Errorf("%v at %v by %d: %v, want %v", x.row, x.u, k, d, x.want[k])
			}
		}
	}
}

// P12.1: beds beside the level, beds that aren't numbers, levels that are rounded.
func TestDepthByHand(t *testing.T) {
	g := made(t, 1)
	nan, inf, minusZero := math.NaN(), math.Inf(1), math.Copysign(0, -1)
	falling := [4]int64{4, 2, 1, 1}
	for _, x := range []struct {
		row
		kind int
		u    float64
		want float64
	}{
		{row{falling, 0, 1}, api.Plain, 1, 1},
		{row{falling, 0, 2}, api.Plain, 1, 0}, // just at the level
		{row{falling, 0, math.Nextafter(2, 0)}, api.Plain, 1, 0x1p-52},
		{row{falling, 0, math.Nextafter(2, 3)}, api.Plain, 1, 0},
		{row{falling, 0, 0.75}, api.Minmod, 1, 1.25}, // the gate
		{row{falling, 0, 0.25}, api.Minmod, 1, 1.5},  // the slope
		{row{falling, 0, 0.75}, api.Superbee, 1, 1},
		{row{falling, -1, 0.75}, api.Plain, 1, 0.25}, // the level is 1
		{row{falling, 3, 0.75}, api.Plain, 1, 2},     // the higher bed is up's own
		{row{falling, 3, 0.75}, api.Superbee, 1, 1},
		{row{falling, minusZero, minusZero}, api.Minmod, 1, 1.5},
		{row{falling, 0, minusZero}, api.Minmod, 1, 1.5},
		{row{falling, minusZero, 0}, api.Plain, 1, 2},
		{row{falling, nan, 0}, api.Plain, 1, 0},
		{row{falling, 0, nan}, api.Plain, 1, 0},
		{row{falling, nan, nan}, api.Plain, -1, 0},
		{row{falling, inf, 0}, api.Plain, 1, 0}, // the infinity less itself
		{row{falling, 0, inf}, api.Plain, 1, 0},
		{row{falling, inf, inf}, api.Plain, 1, 0},
		{row{falling, -inf, 0}, api.Plain, 1, 0},
		{row{falling, -inf, -inf}, api.Plain, 1, 0},
		{row{falling, 0, -inf}, api.Plain, 1, 2}, // a hole
		{row{falling, 0, -inf}, api.Superbee, 1, 1},
		{row{falling, inf, -inf}, api.Plain, 1, 0},
		{row{falling, -inf, 0}, api.Plain, -1, 1},
		{row{falling, greatest, -greatest}, api.Plain, 1, 0}, // the depth is lost in the level
		{row{falling, -greatest, greatest}, api.Plain, 1, 0}, // the gate is -inf
		{row{falling, 0, -greatest}, api.Plain, 1, 2},
		{row{[4]int64{2, 3, 4, 4}, 1e16, 0}, api.Plain, 1, 3}, // 1e16 + 3 rounds to 1e16 + 4: the gate is 4
		{row{[4]int64{2, 3, 4, 4}, 1e16, 0}, api.Minmod, 1, 3.5},
		{row{[4]int64{1, 3, 5, 5}, 1e16, 0}, api.Superbee, 1, 4},
		{row{[4]int64{1, 3, 9, 9}, 1e16, 0}, api.Superbee, 1, 4}, // the slope is 4
		{row{[4]int64{2, 1, 0, 0}, 1e16, 0}, api.Plain, 1, 0},    // 1e16 + 1 is 1e16
		{row{[4]int64{2, 1, 0, 0}, 0, 0}, api.Minmod, 1, 0.5},
		{row{[4]int64{2, 1, 0, 0}, 0, 0}, api.Superbee, 1, 0.5},
		{row{[4]int64{3, 1, 0, 0}, 0, 0}, api.Superbee, 1, 0}, // the slope is -2, the depth 1: none is left
		{row{[4]int64{0, 0, 0, 0}, 0, 0}, api.Plain, 1, 0},
		{row{[4]int64{0, 0, 0, 0}, 0, -1}, api.Plain, 1, 0},
		{row{[4]int64{-1, -2, -3, -4}, 0, 0}, api.Minmod, 1, 0},
		{row{[4]int64{1, 0, 1, 2}, 0, -5}, api.Leer, 1, 0},
		{row{[4]int64{-3, 1, 0, 0}, 0, 0}, api.Minmod, 1, 1},  // below nothing is nothing: x and y have two signs
		{row{[4]int64{2, 1, -3, 0}, 0, 0}, api.Minmod, 1, .5}, // y is -1, not -4
		{row{[4]int64{9, 1, 2, 4}, 0, 0}, api.Minmod, -1, 1.5},
		{row{[4]int64{9, 1, 2, 4}, 0, 0}, api.Superbee, -1, 1},
		{row{[4]int64{9, 1, 2, 4}, 0.75, 0}, api.Plain, -1, 1.25},
		{row{[4]int64{9, 1, 2, 4}, 2, 0}, api.Plain, -1, 0},
		{row{[4]int64{9, 1, 2, 4}, 0, nan}, api.Plain, -1, 0},
	} {
		if d := Depth(g, x.kind, x.sea(g), 0, x.u); !same(d, x.want) {
			t.Errorf("%v at %v by %d: %v, want %v", x.row, x.u, x.kind, d, x.want)
		}
	}
}

// P12.1: waters at the ends.
func TestVeryMuchWater(t *testing.T) {
	g := made(t, 1)
	s := row{}.sea(g)
	area := g.Area(0)
	for _, water := range []int64{1, 2, area - 1, area, area + 1, api.MaxWater, 1<<53 + 1, 1<<53 + 3, math.MaxInt64 - 1, math.MaxInt64} {
		s.Water[0] = water
		want := over(nearestFloat(water), nearestFloat(area))
		for _, k := range kinds() {
			if d := Depth(g, k, s, 0, 1); !same(d, want) { // a height: no slope
				t.Errorf("water %d by %d: %v, want %v", water, k, d, want)
			}
			if d := Depth(g, k, s, 0, -1); !same(d, 0) {
				t.Errorf("out of a cell without water, beside %d, by %d: %v", water, k, d)
			}
		}
	}
	for _, water := range []int64{math.MinInt64, math.MinInt64 + 1, -area, -1, 0} {
		s.Water[0] = water
		for _, k := range kinds() {
			if d := Depth(g, k, s, 0, 1); !same(d, 0) {
				t.Errorf("water %d by %d: %v", water, k, d)
			}
		}
	}
}

// P12.1, P2: against the model, over nets of many sides; an answer is never below +0 and never a NaN.
func TestAgainstTheModel(t *testing.T) {
	p := newPicker()
	shown := map[int]int{}
	for _, side := range []int{1, 1, 1, 1, 1, 1, 2, 2, 2, 3, 4, 5, 8} {
		g := made(t, side)
		for range 1 + 48/side/side {
			s := p.sea(g)
			for e := range g.Edges() {
				for _, u := range []float64{1, -1, pick(p, going()), -pick(p, going()), pick(p, standing())} {
					for _, k := range kinds() {
						d, want := Depth(g, k, s, e, u), model(g, k, s, e, u)
						if !same(d, want) || !(d >= 0) || math.Signbit(d) {
							t.Fatalf("side %d, edge %d at %v by %d: %v, want %v", side, e, u, k, d, want)
						}
						if d > 0 && !same(d, Depth(g, api.Plain, s, e, u)) {
							shown[k]++
						}
					}
				}
			}
		}
	}
	for _, k := range kinds()[1:] {
		if shown[k] < 100 {
			t.Errorf("slopes by %d showed %d times: too few to tell anything", k, shown[k])
		}
	}
}

// P12.1: of the greatest net some edges.
func TestGreatestNet(t *testing.T) {
	g, p := made(t, api.MaxSide), newPicker()
	s := p.sea(g)
	for e := 0; e < g.Edges(); e += 7 {
		for _, k := range kinds() {
			for _, u := range []float64{1, -1} {
				if d, want := Depth(g, k, s, e, u), model(g, k, s, e, u); !same(d, want) {
					t.Fatalf("edge %d at %v by %d: %v, want %v", e, u, k, d, want)
				}
			}
		}
	}
}

// P12.1: nothing goes at noughts and NaNs, and how fast it goes doesn't count.
func TestOnlyTheSignOfTheSpeedCounts(t *testing.T) {
	g, p := made(t, 2), newPicker()
	s := p.sea(g)
	for e := range g.Edges() {
		for _, k := range append(kinds(), wild()...) {
			for _, u := range standing() {
				if d := Depth(g, k, s, e, u); !same(d, 0) {
					t.Fatalf("edge %d at %x by %d: %v", e, math.Float64bits(u), k, d)
				}
			}
			for _, u := range going() {
				if !same(Depth(g, k, s, e, u), Depth(g, k, s, e, 1)) || !same(Depth(g, k, s, e, -u), Depth(g, k, s, e, -1)) {
					t.Fatalf("edge %d by %d hangs on the speed %v", e, k, u)
				}
			}
		}
	}
}

// P12.1: of a limiter that there is not the Slope is layer 10's: +0, as Plain's.
func TestLimitersThatThereAreNot(t *testing.T) {
	g, p := made(t, 2), newPicker()
	for range 5 {
		s := p.sea(g)
		for e := range g.Edges() {
			for _, u := range []float64{1, -1} {
				for _, k := range wild() {
					if d, want := Depth(g, k, s, e, u), Depth(g, api.Plain, s, e, u); !same(d, want) {
						t.Fatalf("edge %d at %v by %d: %v, want %v", e, u, k, d, want)
					}
				}
			}
		}
	}
	if d := Depth(made(t, 1), -1, row{depths: [4]int64{4, 2, 1, 1}}.sea(made(t, 1)), 0, 1); !same(d, 2) {
		t.Errorf("by -1: %v", d)
	}
}

// P12.1: edges that there are not, and a net that there is not.
func TestNoSuchEdge(t *testing.T) {
	for _, side := range []int{1, 2, 5} {
		g := made(t, side)
		s := pond(g)
		for _, e := range []int{math.MinInt, math.MinInt + 1, -1 << 32, -g.Edges(), -g.Edges() + 1, -2, -1,
			g.Edges(), g.Edges() + 1, 2 * g.Edges(), 1 << 31, 1 << 32, 1<<32 + 1, math.MaxInt - 1, math.MaxInt} {
			for _, u := range []float64{1, -1, 0} {
				if d := Depth(g, api.Plain, s, e, u); !same(d, 0) {
					t.Errorf("side %d, edge %d at %v: %v", side, e, u, d)
				}
			}
		}
		for _, e := range []int{0, g.Edges() - 1} {
			if Depth(g, api.Plain, s, e, 1) != 1 || Depth(g, api.Plain, s, e, -1) != 1 {
				t.Errorf("side %d: nothing goes over edge %d", side, e)
			}
		}
	}
	for _, s := range []api.Sea{{}, pond(made(t, 1)), {Bed: []float64{}, Water: []int64{}, Speed: []float64{}}} {
		for _, e := range []int{math.MinInt, -1, 0, 1, math.MaxInt} {
			if d := Depth(nil, api.Plain, s, e, 1); !same(d, 0) {
				t.Errorf("edge %d of a nil net: %v", e, d)
			}
		}
	}
}

// pond: beds 0, depths 1, speeds 1.
func pond(g *grid.Grid) api.Sea {
	s := api.Sea{Bed: make([]float64, g.Cells()), Water: make([]int64, g.Cells()), Speed: make([]float64, g.Edges())}
	for cell := range s.Water {
		s.Water[cell] = g.Area(cell)
	}
	for e := range s.Speed {
		s.Speed[e] = 1
	}
	return s
}

// others: lists that are nil, too short and too long, the spare room of which would do.
func others[T any](list []T) [][]T {
	long := append(slices.Clone(list), list[0])
	return [][]T{nil, {}, list[:1], list[:len(list)-1], list[1:], long, append(long, list...)}
}

// P12.1, P12.2: lists that don't fit.
func TestListsThatDoNotFit(t *testing.T) {
	for _, side := range []int{1, 2} {
		g := made(t, side)
		refused := func(s api.Sea, what string) {
			for _, e := range []int{-1, 0, 1, g.Edges() - 1, g.Edges()} {
				for _, u := range []float64{1, -1, 0} {
					if d := Depth(g, api.Plain, s, e, u); !same(d, 0) {
						t.Errorf("side %d, %s: the depth over %d is %v", side, what, e, d)
					}
				}
			}
			if l, err := Depths(g, api.Plain, s); err != api.ErrArg || len(l) != 0 {
				t.Errorf("side %d, %s: Depths is %v, %d", side, what, l, err)
			}
		}
		for _, bed := range others(pond(g).Bed) {
			s := pond(g)
			s.Bed = bed
			refused(s, "beds")
		}
		for _, water := range others(pond(g).Water) {
			s := pond(g)
			s.Water = water
			refused(s, "waters")
		}
		refused(pond(made(t, side+1)), "the pond of another net")
	}
}

// P12.1: Depth doesn't look at speeds, tracers, sky and step.
func TestSpeedsAreNotLookedAt(t *testing.T) {
	g, p := made(t, 2), newPicker()
	s := p.sea(g)
	for _, speed := range append(others(make([]float64, g.Edges())), nans(), slices.Repeat(nans(), 6)) {
		r := api.Sea{Bed: s.Bed, Water: s.Water, Speed: speed, Tracer: make([]int64, len(speed)), Sky: math.MinInt64, Step: -1}
		for e := range g.Edges() {
			for _, u := range []float64{1, -1} {
				if d, want := Depth(g, api.Leer, r, e, u), Depth(g, api.Leer, s, e, u); !same(d, want) {
					t.Fatalf("with %d speeds edge %d at %v: %v, want %v", len(speed), e, u, d, want)
				}
			}
		}
	}
}

// P12.1: of all cells only up, down and back count, of back the bed doesn't.
func TestOtherCellsDoNotCount(t *testing.T) {
	g, p := made(t, 2), newPicker()
	for e := range g.Edges() {
		s, r := p.sea(g), p.sea(g)
		x, _ := g.Edge(e)
		back, _, _ := g.Behind(e)
		for _, cell := range []int{x.Left, x.Right, back} {
			r.Water[cell] = s.Water[cell]
		}
		r.Bed[x.Left], r.Bed[x.Right] = s.Bed[x.Left], s.Bed[x.Right]
		for _, k := range kinds() {
			if d, want := Depth(g, k, r, e, 1), Depth(g, k, s, e, 1); !same(d, want) {
				t.Errorf("edge %d by %d: %v and %v", e, k, d, want)
			}
		}
	}
}

// P12.2: each edge in order, at its own speed.
func TestDepthsOfAllEdges(t *testing.T) {
	p := newPicker()
	for _, side := range []int{1, 2, 3, 5, api.MaxSide} {
		g := made(t, side)
		s := p.sea(g)
		for range g.Edges() {
			s.Speed = append(s.Speed, pick(p, []float64{1, -1, pick(p, going()), -pick(p, going()), pick(p, standing())}))
		}
		for _, k := range kinds() {
			l, err := Depths(g, k, s)
			if err != api.OK || len(l) != g.Edges() {
				t.Fatalf("side %d by %d: %d depths, error %d", side, k, len(l), err)
			}
			for e, d := range l {
				if want := Depth(g, k, s, e, s.Speed[e]); !same(d, want) {
					t.Fatalf("side %d by %d: over %d %v, want %v", side, k, e, d, want)
				}
			}
		}
	}
}

// P12.2: some edges by hand, so that the list doesn't hang on Depth alone.
func TestDepthsByHand(t *testing.T) {
	g := made(t, 1)
	s := pond(g)
	for cell := range s.Water {
		s.Water[cell] *= int64(cell + 1)
	}
	clear(s.Speed)
	s.Speed[0], s.Speed[2], s.Speed[4], s.Speed[11] = 1, -1, -1, 0x1p-1074
	want := make([]float64, 12)
	want[0], want[2], want[4], want[11] = 1, 4, 3, 4 // edge 11 is the last of cell 3
	if l, err := Depths(g, api.Plain, s); err != api.OK || !sameLists(l, want) {
		t.Errorf("Depths is %v, %d, want %v", l, err, want)
	}
}

// Depths: the errors, and which comes first; tracers that don't fit are none.
func TestErrorsOfDepths(t *testing.T) {
	g := made(t, 2)
	for _, k := range append(kinds(), wild()...) {
		for _, s := range []api.Sea{{}, pond(g)} {
			if l, err := Depths(nil, k, s); err != api.ErrNil || len(l) != 0 {
				t.Errorf("a nil net by %d: %v, %d", k, l, err)
			}
		}
	}
	for _, k := range wild() {
		for _, s := range []api.Sea{{}, pond(g)} {
			if l, err := Depths(g, k, s); err != api.ErrArg || len(l) != 0 {
				t.Errorf("by %d: %v, %d", k, l, err)
			}
		}
	}
	for _, speed := range others(pond(g).Speed) {
		s := pond(g)
		s.Speed = speed
		for _, k := range kinds() {
			if l, err := Depths(g, k, s); err != api.ErrArg || len(l) != 0 {
				t.Errorf("%d speeds: %v, %d", len(speed), l, err)
			}
		}
	}
	for _, tracer := range [][]int64{nil, {1}, make([]int64, 24), make([]int64, 99)} {
		s := pond(g)
		s.Tracer, s.Sky, s.Step = tracer, -1, -1
		if l, err := Depths(g, api.Plain, s); err != api.OK || len(l) != g.Edges() || l[0] != 1 {
			t.Errorf("%d tracers: %v, %d", len(tracer), l, err)
		}
	}
}

// P12.3: the two cells changed for one another, and those behind them, and u for its opposite.
func TestTurnedAbout(t *testing.T) {
	p := newPicker()
	for _, side := range []int{1, 2, 3, 4, 5} {
		g := made(t, side)
		for e := range g.Edges() {
			x, _ := g.Edge(e)
			behindLeft, behindRight, _ := g.Behind(e)
			there := [4]int{behindLeft, x.Left, x.Right, behindRight}
			for range 8 {
				s, r := p.sea(g), p.sea(g)
				for k, cell := range there {
					other, depth := there[3-k], int64(p.next()>>20%5)
					s.Water[cell], r.Water[other] = depth*g.Area(cell), depth*g.Area(other) // so that both have this depth
					r.Bed[other] = s.Bed[cell]
				}
				for _, k := range append(kinds(), -1) {
					for _, u := range []float64{1, -1, pick(p, going()), -pick(p, going()), pick(p, standing())} {
						if d, want := Depth(g, k, r, e, -u), Depth(g, k, s, e, u); !same(d, want) {
							t.Fatalf("side %d, edge %d by %d: at %v %v, turned about %v", side, e, k, u, want, d)
						}
					}
				}
			}
		}
	}
}

// turned: the sea that a turn of the cube makes of a sea's beds and waters.
func turned(g *grid.Grid, turn int, s api.Sea) api.Sea {
	out := api.Sea{Bed: make([]float64, g.Cells()), Water: make([]int64, g.Cells())}
	for cell := range s.Bed {
		to, _ := cube.Turn(g.Side(), turn, cell)
		out.Bed[to], out.Water[to] = s.Bed[cell], s.Water[cell]
	}
	return out
}

// P12.3: with the cube turned each edge has its depth, whichever cell is the Left there.
func TestTurnsOfTheCube(t *testing.T) {
	p := newPicker()
	for _, side := range []int{1, 2, 3, 4} {
		g := made(t, side)
		about := 0
		for turn := range 24 {
			s := p.sea(g)
			r := turned(g, turn, s)
			for e := range g.Edges() {
				x, _ := g.Edge(e)
				to, q := cube.Turn(side, turn, x.Left)
				there, sign := g.Around(to, (x.Side+q)%4)
				if sign < 0 {
					about++
				}
				for _, k := range kinds() {
					for _, u := range []float64{0.25, -0.25} {
						if d, want := Depth(g, k, r, there, u*float64(sign)), Depth(g, k, s, e, u); !same(d, want) {
							t.Fatalf("side %d, turn %d, edge %d at %v by %d: %v, turned %v", side, turn, e, u, k, want, d)
						}
					}
				}
			}
		}
		if about == 0 {
			t.Errorf("side %d: no edge was turned about", side)
		}
	}
}

// whole: the bits of a list and of its spare room.
func whole(list []float64) []uint64 {
	var out []uint64
	for _, x := range list[:cap(list)] {
		out = append(out, math.Float64bits(x))
	}
	return out
}

// roomy: the list with spare room behind it that isn't empty.
func roomy[T any](list []T) []T { return append(slices.Clone(list), list...)[:len(list)] }

// P12.4.
func TestWhatIsHandedInStays(t *testing.T) {
	g, p := made(t, 2), newPicker()
	s := p.sea(g)
	s.Speed = slices.Repeat([]float64{1, -1, math.Copysign(0, -1), math.Float64frombits(0xfff0000000000001)}, g.Edges()/4)
	s.Bed, s.Water, s.Speed, s.Tracer = roomy(s.Bed), roomy(s.Water), roomy(s.Speed), roomy(s.Water)
	beds, speeds := whole(s.Bed), whole(s.Speed)
	waters, tracers := slices.Clone(s.Water[:cap(s.Water)]), slices.Clone(s.Tracer[:cap(s.Tracer)])
	first, _ := Depths(g, api.Leer, s)
	kept := slices.Clone(first)
	for e := range first {
		Depth(g, api.Leer, s, e, 1)
		Depth(g, api.Leer, s, e, -1)
	}
	second, _ := Depths(g, api.Leer, s)
	room := second[:cap(second)]
	for k := range room {
		room[k] = -7
	}
	if !sameLists(first, kept) {
		t.Error("a list that was answered has changed with a later one")
	}
	if !slices.Equal(whole(s.Bed), beds) || !slices.Equal(whole(s.Speed), speeds) ||
		!slices.Equal(s.Water[:cap(s.Water)], waters) || !slices.Equal(s.Tracer[:cap(s.Tracer)], tracers) {
		t.Error("what was handed in has changed")
	}
	if third, _ := Depths(g, api.Leer, s); !sameLists(third, kept) {
		t.Error("asked again the depths are others")
	}
	s.Water[0]++
	if !sameLists(first, kept) {
		t.Error("the answer hangs on what was handed in")
	}
}

// Calls at the same time, over the same net and sea, answer the same.
func TestCallsAtTheSameTime(t *testing.T) {
	g, p := made(t, 4), newPicker()
	s := p.sea(g)
	s.Speed = slices.Repeat([]float64{1, -1}, g.Edges()/2)
	want, _ := Depths(g, api.Superbee, s)
	rows := make([][]float64, 8)
	var all sync.WaitGroup
	for k := range rows {
		all.Go(func() { rows[k], _ = Depths(g, api.Superbee, s) })
	}
	all.Wait()
	for k, l := range rows {
		if !sameLists(l, want) {
			t.Errorf("call %d answered other depths", k)
		}
	}
}
