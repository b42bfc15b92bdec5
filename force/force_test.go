package force

import (
	"math"
	"slices"
	"sync"
	"testing"

	"tarn/api"
	"tarn/cube"
	"tarn/grid"
	"tarn/level"
)

const (
	least    = math.SmallestNonzeroFloat64
	greatest = math.MaxFloat64
	fastest  = 1024
)

var (
	inf       = math.Inf(1)
	minusZero = math.Copysign(0, -1)
)

func same(x, y float64) bool { return math.Float64bits(x) == math.Float64bits(y) }

func sameLists(x, y []float64) bool { return slices.EqualFunc(x, y, same) }

func up(x float64) float64 { return math.Nextafter(x, inf) }

func down(x float64) float64 { return math.Nextafter(x, -inf) }

func made(t *testing.T, side int) *grid.Grid {
	t.Helper()
	g, err := grid.New(side)
	if g == nil || err != api.OK {
		t.Fatalf("grid.New(%d) is %v, %d", side, g, err)
	}
	return g
}

func nans() []float64 {
	var out []float64
	for _, b := range []uint64{0x7ff0000000000001, 0x7ff8000000000000, api.QuietNaN, 0x7fffffffffffffff} {
		out = append(out, math.Float64frombits(b), math.Float64frombits(b|1<<63))
	}
	return out
}

// atLeast0: floats that aren't below 0, from one end to the other, finite.
func atLeast0() []float64 {
	return []float64{0, minusZero, least, 0x1p-1022, 0x1p-600, 0x1p-52, 0.1, 0.5, 1, 1.5, 1023.9, 1024, 0x1p52, 0x1p600, greatest}
}

// all: those, the infinity, the opposites of all these, and NaNs.
func all() []float64 {
	out := append(nans(), inf, -inf)
	for _, x := range atLeast0() {
		out = append(out, x, -x)
	}
	return out
}

// picker: numbers by a rule of its own, the same ones every time.
type picker uint64

func newPicker() *picker {
	p := picker(0x9e3779b97f4a7c15)
	return &p
}

func (p *picker) next() uint64 {
	s := uint64(*p)
	s ^= s << 13
	s ^= s >> 7
	s ^= s << 17
	*p = picker(s)
	return s
}

func pick[T any](p *picker, from []T) T { return from[p.next()>>11%uint64(len(from))] }

// one of so many.
func (p *picker) one(of uint64) bool { return p.next()>>20%of == 0 }

// float: from -1 up to 1, with all bits of its fraction.
func (p *picker) float() float64 { return float64(int64(p.next())) / 0x1p63 }

// scaled: a float times a power of 2 of at most that magnitude.
func (p *picker) scaled(power int) float64 {
	return math.Ldexp(p.float(), int(p.next()>>20%uint64(2*power+1))-power)
}

// bed: mostly an ordinary one, often one that others have too.
func (p *picker) bed() float64 {
	switch {
	case p.one(16):
		return pick(p, all())
	case p.one(3):
		return pick(p, []float64{0, minusZero, 0.1, -0.1, 0.5, 1, -1, 2, 3, -7.25, 1e16})
	}
	return p.scaled(3)
}

// water of a cell of this area: often none, at times less, or very much.
func (p *picker) water(area int64) int64 {
	switch {
	case p.one(4):
		return pick(p, []int64{0, 0, 0, -1, math.MinInt64})
	case p.one(8):
		return pick(p, []int64{-1 << 53, 1, 2, 3, api.MaxWater, 1<<53 + 1, math.MaxInt64})
	case p.one(3):
		return area * int64(p.next()>>20%6)
	}
	return int64(p.next() >> 20 % uint64(5*area))
}

// pond: beds 0, depths 1, speeds +0.
func pond(g *grid.Grid) api.Sea {
	s := api.Sea{
		Bed:    make([]float64, g.Cells()),
		Water:  make([]int64, g.Cells()),
		Tracer: make([]int64, g.Cells()),
		Speed:  make([]float64, g.Edges()),
	}
	for cell := range s.Water {
		s.Water[cell] = g.Area(cell)
	}
	return s
}

// sea that fits g: ordinary numbers, among them such that no sea can have.
func (p *picker) sea(g *grid.Grid) api.Sea {
	s := pond(g)
	for cell := range s.Bed {
		s.Bed[cell], s.Water[cell], s.Tracer[cell] = p.bed(), p.water(g.Area(cell)), int64(p.next())
	}
	for e := range s.Speed {
		s.Speed[e] = p.scaled(10)
		if p.one(8) {
			s.Speed[e] = pick(p, all())
		}
	}
	s.Sky, s.Step = int64(p.next()), int(p.next())
	return s
}

// plan with ordinary numbers, at times with such as no plan can have.
func (p *picker) plan() api.Plan {
	of := func(power int) float64 {
		if p.one(16) {
			return pick(p, all())
		}
		return math.Abs(p.scaled(power))
	}
	return api.Plan{Gravity: of(3), Dt: of(3), Drag: of(3)}
}

// pair: what lies on both sides of an edge: beds, and depths that are whole numbers.
type pair struct {
	bedL   float64
	depthL int64
	bedR   float64
	depthR int64
}

// lay puts a pair beside edge e of a sea, and a speed upon it.
func (x pair) lay(g *grid.Grid, s api.Sea, e int, u float64) {
	two, _ := g.Edge(e)
	s.Bed[two.Left], s.Water[two.Left] = x.bedL, x.depthL*g.Area(two.Left)
	s.Bed[two.Right], s.Water[two.Right] = x.bedR, x.depthR*g.Area(two.Right)
	s.Speed[e] = u
}

func (x pair) mirrored() pair { return pair{x.bedR, x.depthR, x.bedL, x.depthL} }

// laid: the pond with a pair beside one edge.
func (x pair) laid(g *grid.Grid, e int, u float64) api.Sea {
	s := pond(g)
	x.lay(g, s, e, u)
	return s
}

// asGapIs1: a plan of this gravity by which an edge pulls as if its gap were 1, for such numbers as floats hold exactly.
func asGapIs1(g *grid.Grid, e int, p api.Plan) api.Plan {
	p.Gravity *= g.Gap(e)
	return p
}

func answered(t *testing.T, g *grid.Grid, p api.Plan, s api.Sea) []float64 {
	t.Helper()
	l, err := Speeds(g, p, s)
	if err != api.OK || len(l) != g.Edges() {
		t.Fatalf("of the net of side %d: %d numbers, error %d", g.Side(), len(l), err)
	}
	return l
}

// askedSpeed: of an edge, by Speed and by Speeds.
func askedSpeed(t *testing.T, g *grid.Grid, p api.Plan, s api.Sea, e int) float64 {
	t.Helper()
	u := Speed(g, p, s, e)
	if v := answered(t, g, p, s)[e]; !same(u, v) {
		t.Fatalf("of edge %d Speed is %v, Speeds has %v", e, u, v)
	}
	return u
}

// The chapter's examples, over every edge of two nets.
func TestExamples(t *testing.T) {
	for _, side := range []int{1, 2} {
		g := made(t, side)
		for _, x := range []struct {
			pair
			u, drag float64
			open    bool
			want    float64
		}{
			{pair{0, 2, 0, 1}, 0, 0, true, 0.5},
			{pair{0, 1, 3, 0}, 0, 0, false, 0},
			{pair{0, 1, 3, 0}, 7, 0, false, 0},
			{pair{0, 1, 3, 0}, -7, 0, false, 0},
			{pair{0, 1, 0.5, 0}, 0, 0, true, 0.25},
			{pair{0, 2, 0, 1}, 0, 1, true, 0.42857142857142855},
			{pair{0, 2, 0, 1}, 1023.9, 0, true, 1024},
		} {
			for e := range g.Edges() {
				s := x.laid(g, e, x.u)
				p := asGapIs1(g, e, api.Plan{Gravity: 1, Dt: 0.5, Drag: x.drag})
				if open := Open(g, s, e); open != x.open {
					t.Errorf("side %d, %v: edge %d is open: %v", side, x.pair, e, open)
				}
				if u := askedSpeed(t, g, p, s, e); !same(u, x.want) {
					t.Errorf("side %d, %v at %v: over %d %v, want %v", side, x.pair, x.u, e, u, x.want)
				}
			}
		}
	}
}

// The same, of a gap that is 1 and of areas of 2^30.
func TestExamplesAsTheyStand(t *testing.T) {
	const area = 1 << 30
	of := func(bedL float64, waterL int64, bedR float64, waterR int64, u float64) edge {
		return edge{left: cell{bedL, waterL, area}, right: cell{bedR, waterR, area}, gap: 1, speed: u}
	}
	p := api.Plan{Gravity: 1, Dt: 0.5}
	drags := api.Plan{Gravity: 1, Dt: 0.5, Drag: 1}
	for k, x := range []struct {
		have, want float64
	}{
		{dragged(p, of(0, 1<<31, 0, 1<<30, 0).pulled(p), 1.5), 0.5},
		{dragged(p, of(0, 1<<30, 0.5, 0, 0).pulled(p), 0.5), 0.25},
		{dragged(drags, of(0, 1<<31, 0, 1<<30, 0).pulled(drags), 1.5), 0.42857142857142855},
		{dragged(p, of(0, 1<<31, 0, 1<<30, 1023.9).pulled(p), 1.5), 1024},
		{of(0, 1<<31, 0, 1<<30, 0).depth(), 1.5},
		{of(0, 1<<30, 0.5, 0, 0).depth(), 0.5},
	} {
		if !same(x.have, x.want) {
			t.Errorf("%d: %v, want %v", k, x.have, x.want)
		}
	}
	if of(0, 1<<30, 3, 0, 9).open() || !of(0, 1<<30, 0.5, 0, 9).open() {
		t.Error("the second example is closed below a bed of 1, and open above it")
	}
}

// P16.1: when an edge is open; each row from both sides.
func TestOpenByHand(t *testing.T) {
	nan := math.NaN()
	g := made(t, 1)
	for _, x := range []struct {
		pair
		open bool
	}{
		{pair{0, 1, 0, 1}, true},
		{pair{-7, 1, 9, 1}, true}, // water upon the higher bed
		{pair{nan, 1, nan, 1}, true},
		{pair{inf, 1, -inf, 1}, true},
		{pair{0, 0, 0, 0}, false},
		{pair{5, 0, -5, 0}, false},
		{pair{0, -1, 0, 0}, false},
		{pair{0, -1, 0, -1}, false},
		{pair{nan, 0, nan, 0}, false}, // nothing is compared here
		{pair{nan, -1, 0, 0}, false},
		{pair{-inf, 0, inf, -1}, false},
		{pair{1, 0, 0, 1}, false}, // just at the bed
		{pair{down(1), 0, 0, 1}, true},
		{pair{up(1), 0, 0, 1}, false},
		{pair{1, -1, 0, 1}, false}, // below nothing is none
		{pair{down(1), -1, 0, 1}, true},
		{pair{0, 0, -1, 1}, false},
		{pair{minusZero, 0, -1, 1}, false}, // the level is +0
		{pair{-least, 0, -1, 1}, true},
		{pair{least, 0, -1, 1}, false},
		{pair{minusZero, 0, 0, 1}, true},
		{pair{1e16, 0, 1e16, 1}, false}, // 1e16 + 1 rounds to 1e16
		{pair{1e16, 0, 1e16, 2}, true},
		{pair{1e16 + 4, 0, 1e16, 3}, false}, // 1e16 + 3 rounds to 1e16 + 4
		{pair{1e16 + 2, 0, 1e16, 3}, true},
		{pair{nan, 0, 0, 1}, true},
		{pair{nan, -1, 0, 1}, true},
		{pair{0, 0, nan, 1}, true},
		{pair{inf, 0, nan, 1}, true},
		{pair{nan, 0, nan, 1}, true},
		{pair{inf, 0, 0, 1}, false},
		{pair{inf, 0, inf, 1}, false},
		{pair{0, 0, inf, 1}, true},
		{pair{-inf, 0, 0, 1}, true},
		{pair{-inf, 0, -inf, 1}, false},
		{pair{0, 0, -inf, 1}, false},
		{pair{greatest, 0, greatest, 1}, false},
		{pair{down(greatest), 0, greatest, 1}, true},
		{pair{-greatest, 0, -greatest, 1}, false},
		{pair{least, 0, 0, 1}, true},
	} {
		for e := range g.Edges() {
			for _, u := range []float64{0, 7, -7, nan} {
				if open := Open(g, x.laid(g, e, u), e); open != x.open {
					t.Errorf("%v: edge %d is open: %v", x.pair, e, open)
				}
				if open := Open(g, x.mirrored().laid(g, e, u), e); open != x.open {
					t.Errorf("%v mirrored: edge %d is open: %v", x.pair, e, open)
				}
			}
		}
	}
}

// P16.1: the least water there is opens an edge, and levels that aren't whole are asked to the bit.
func TestOpenAtALevel(t *testing.T) {
	g, p := made(t, 3), newPicker()
	for e := range g.Edges() {
		two, _ := g.Edge(e)
		for _, x := range [][2]int{{two.Left, two.Right}, {two.Right, two.Left}} {
			wet, dry := x[0], x[1]
			for _, water := range []int64{1, 2, g.Area(wet) - 1, g.Area(wet) + 1, api.MaxWater, math.MaxInt64, int64(p.next() >> 30)} {
				s := pond(g)
				s.Bed[wet], s.Water[wet], s.Water[dry] = p.scaled(2), water, 0
				l := level.Level(s.Bed[wet], water, g.Area(wet))
				for _, y := range []struct {
					bed  float64
					open bool
				}{{l, false}, {down(l), true}, {up(l), false}} {
					s.Bed[dry] = y.bed
					if open := Open(g, s, e); open != y.open {
						t.Fatalf("water %d to %v beside a bed of %v: edge %d is open: %v", water, l, y.bed, e, open)
					}
				}
			}
		}
	}
}

// P16.1: a closed edge has the speed +0, whatever the speed was and whatever the plan is.
func TestClosed(t *testing.T) {
	g := made(t, 1)
	for _, x := range []pair{{0, 0, 0, 0}, {0, -1, 5, 0}, {1, 0, 0, 1}, {0, 1, 1, 0}, {0, 1, inf, -1}} {
		for _, u := range all() {
			for _, p := range []api.Plan{{}, {Gravity: 1, Dt: 0.5}, {Gravity: inf, Dt: inf, Drag: -1}, {Gravity: math.NaN()}} {
				s := x.laid(g, 0, u)
				if v := askedSpeed(t, g, p, s, 0); Open(g, s, 0) || !same(v, 0) {
					t.Errorf("%v at %v: %v", x, u, v)
				}
			}
		}
	}
}

// P16.1: the order of the operations shows where one of them is too great or too small for a float, or a NaN.
func TestSpeedByHand(t *testing.T) {
	nan := math.NaN()
	g := made(t, 1)
	gap := g.Gap(0) // above 1 and below 1.5
	for k, x := range []struct {
		pair
		u, gravity, dt, drag float64
		want                 float64
	}{
		{pair{0, 2, 0, 1}, 0, gap, 1, 0, 1},
		{pair{0, 1, 0, 2}, 0, gap, 1, 0, -1},
		{pair{0, 2, 0, 1}, 0.25, gap, 1, 0, 1.25},
		{pair{0, 2, 0, 1}, -1, gap, 1, 0, 0},
		{pair{0, 2, 1, 1}, 0, gap, 1, 0, 0},       // levels, not depths
		{pair{0, 1, -4, 1}, 0, gap, 1, 0, 4},      // so too here
		{pair{0, 1, 9, 1}, 0, gap, 1, 0, -9},      // water upon a higher bed comes down
		{pair{0, 2, 0, 2}, 3, gap, 1, 0, 3},       // nothing pulls, nothing drags
		{pair{0, 2, 0, 2}, 3, gap, 1, 1, 1.2},     // 3 / (1 + 3 / 2)
		{pair{0, 2, 0, 2}, -3, gap, 1, 1, -1.2},   // the magnitude drags
		{pair{0, 2, 0, 2}, 3, gap, 0.5, 2, 1.2},   // Drag and Dt
		{pair{0, 3, 0, 1}, 1, gap, 1, 1, 1.2},     // u1 is 3, h 2: it drags behind the pull
		{pair{0, 1, 0, 1}, 1, gap, 1, -3, -0.5},   // a drag below 0
		{pair{0, 1, 0, 1}, 1, gap, 1, -1, 1024},   // 1 over 0
		{pair{0, 1, 0, 1}, -1, gap, 1, -1, -1024}, // -1 over 0
		{pair{0, 2, 0, 1}, 0, -gap, 1, 0, -1},
		{pair{0, 2, 0, 1}, 0, -gap, -1, 0, 1},
		{pair{0, 2, 0, 1}, 0, 0, 1, 0, 0},
		{pair{0, 2, 0, 1}, 0, 1, minusZero, 0, 0},
		{pair{0, 2, 0, 1}, minusZero, 0, 1, 0, 0},
		{pair{0, 1, 0, 2}, minusZero, 0, 1, 0, 0}, // -0 - (+0) is -0
		{pair{0, 1, 0, 1}, minusZero, 1, 1, 1, 0},
		{pair{0, 1, 0, 1}, -least, 1, 1, 0x1p1000, -least},         // the drag is far too small
		{pair{0, 1, 0, 1}, -0x1p-1022, 0, inf, 1, 0},               // 0 * inf: the pull is a NaN
		{pair{0, 1, 0, 1}, -0x1p-1000, 0, 0x1p1000, 1, -0x1p-1001}, // the drag is 1
		{pair{0, 1, 0, 1}, -least, 0, 1, inf, 0},                   // over the infinity: -0
		{pair{0, 1, 0, 1}, 1, 0, 1, inf, 0},
		{pair{0, 1, 0, 1}, 0, 0, 1, inf, 0},           // inf * 0: a NaN
		{pair{0, 1, 0, 1}, 1, 0x1p600, 0x1p600, 0, 0}, // Gravity * Dt is the infinity, times 0 a NaN
		{pair{0, 1, 0, 1}, 1, 0x1p600, 0x1p400, 0, 1},
		{pair{0, 2, 0, 1}, 1, 0x1p600, 0x1p600, 0, 0},    // u1 is the infinity: a drag of 0 makes a NaN of it
		{pair{0, 2, 0, 1}, 1, 0x1p600, 0x1p600, 1, 0},    // inf over inf
		{pair{0, 2, 0, 1}, 1, 0x1p600, 0x1p400, 0, 1024}, // far above, but no infinity
		{pair{0, 1, 0, 2}, 1, 0x1p600, 0x1p400, 0, -1024},
		{pair{-0x1p-500, 0, -1, 1}, 1, 0x1p600, 0x1p600, 0, 0}, // so too, though with the levels' difference it wouldn't be
		{pair{-0x1p-500, 0, -1, 1}, 1, 0x1p600, 0x1p400, 0, -1024},
		{pair{0, 3, 0, 1}, 1, 0x1p1023, 1, 0, 0}, // the product by the difference is the infinity, ahead of the gap
		{pair{0, 1, 0, 3}, 1, 0x1p1023, 1, 0, 0},
		{pair{0, 2, 0, 1}, 1, 0x1p1023, 1, 0, 1024},
		{pair{0x1p1000, 1, 0, 1}, 1, 0x1p-600, 0x1p-600, 0, 1}, // Gravity * Dt is 0, though with the levels it wouldn't be
		{pair{0x1p1000, 1, 0, 1}, 1, 0x1p-500, 0x1p-500, 0, 1 + 1/gap},
		{pair{0x1p1000, 1, 0, 1}, 0, 0x1p500, 0x1p-1050, 0, 1024}, // Gravity isn't put to the difference first
		{pair{0x1p1000, 1, 0, 1}, 0, 0x1p-1000, 1, 0, 1 / gap},
		{pair{greatest, 1, -greatest, 1}, 1, 0x1p-1020, 1, 0, 0}, // the levels' difference is the infinity
		{pair{greatest, 1, -greatest, 1}, 1, 0, 1, 0, 0},
		{pair{greatest, 1, greatest, 1}, 1, 1, 1, 0, 1},
		{pair{inf, 1, 0, 1}, 1, 1, 1, 0, 0},
		{pair{0, 1, -inf, 1}, 1, 1, 1, 0, 0},
		{pair{inf, 1, inf, 1}, 1, 1, 1, 0, 0},
		{pair{-inf, 1, -inf, 1}, 1, 0, 1, 0, 0},
		{pair{nan, 1, 0, 1}, 1, 0, 0, 0, 0},
		{pair{0, 1, nan, 1}, 1, 0, 0, 0, 0},
		{pair{nan, 0, 0, 1}, 1, 0, 0, 0, 0}, // open, but nothing comes of it
		{pair{0, 1, 0, 1}, nan, 0, 0, 0, 0},
		{pair{0, 1, 0, 1}, inf, 0, 0, 0, 0},
		{pair{0, 1, 0, 1}, -inf, 0, 0, 1, 0},
		{pair{0, 1, 0, 1}, greatest, 0, 0, 0, 1024},
		{pair{0, 1, 0, 1}, -greatest, 0, 0, 0, -1024},
		{pair{0, 1, 0, 1}, greatest, 0, 1, 0.5, 2},
		{pair{0, 1, 0, 1}, greatest, 0, 1, 4, 0}, // the drag is the infinity
		{pair{0, 4, 0, 4}, greatest, 0, 1, 4, 0}, // so too ahead of h
		{pair{0, 4, 0, 4}, greatest, 0, 1, 1, 4},
		{pair{0, 1, 0, 1}, 1, nan, 0, 0, 0},
		{pair{0, 1, 0, 1}, 1, 0, nan, 0, 0},
		{pair{0, 1, 0, 1}, 1, 0, 0, nan, 0},
		{pair{0, 1, 0, 1}, 1, inf, 0, 0, 0},
		{pair{0, 1, 0, 1}, 1, 0, 0, -inf, 0},
	} {
		s := x.laid(g, 0, x.u)
		p := api.Plan{Gravity: x.gravity, Dt: x.dt, Drag: x.drag}
		if u := askedSpeed(t, g, p, s, 0); !same(u, x.want) {
			t.Errorf("%d: %v at %v by %v, %v, %v: %v, want %v", k, x.pair, x.u, x.gravity, x.dt, x.drag, u, x.want)
		}
	}
}

// P16.1: between both cells there is a depth above 0 wherever the edge is open, so that these are asked within.
func TestNoDepth(t *testing.T) {
	for _, h := range append(nans(), 0, minusZero, -least, -1, -inf) {
		for _, u := range all() {
			for _, p := range []api.Plan{{}, {Dt: 0.5, Drag: 1}, {Dt: 0.5, Drag: -1}, {Dt: inf, Drag: inf}} {
				if v := dragged(p, u, h); !same(v, 0) {
					t.Errorf("%v over a depth of %v: %v", u, h, v)
				}
			}
		}
	}
	p := api.Plan{Dt: 1, Drag: 1}
	if v := dragged(p, 1, least); !same(v, 0) { // 1 over the infinity
		t.Errorf("over the least depth: %v", v)
	}
	if v := dragged(p, least, least); !same(v, 0) { // the half of least: the even one of both is 0
		t.Errorf("the least speed over the least depth: %v", v)
	}
	if v := dragged(p, 1, inf); !same(v, 1) {
		t.Errorf("over a depth without end: %v", v)
	}
	empty := edge{left: cell{water: 1}, right: cell{water: 1}, gap: 1, speed: 1} // areas of 0
	if h := empty.depth(); !same(h, 0) || !empty.open() {
		t.Errorf("over no area the depth is %v", h)
	}
}

// P16.1, P16.4: speeds behind a step at MaxSpeed, and beside it.
func TestGreatestSpeeds(t *testing.T) {
	g := made(t, 1)
	gap := g.Gap(0)
	for _, x := range []struct {
		u, want float64
	}{
		{fastest, fastest},
		{down(fastest), down(fastest)},
		{up(fastest), fastest},
		{1025, fastest},
		{0x1p1000, fastest},
		{down(down(fastest)), down(down(fastest))},
		{1023.9, 1023.9},
	} {
		for _, sign := range []float64{1, -1} {
			s := pair{0, 1, 0, 1}.laid(g, 0, sign*x.u)
			if u := askedSpeed(t, g, api.Plan{Gravity: 1, Dt: 1}, s, 0); !same(u, sign*x.want) {
				t.Errorf("%v: %v", sign*x.u, u)
			}
		}
	}
	for _, x := range []struct {
		u, gravity, drag float64
		want             float64
	}{
		{1023, gap, 0, fastest}, // the pull reaches it just so
		{1022.5, gap, 0, 1023.5},
		{down(1023), gap, 0, down(1024)}, // the floats are as far apart on both sides
		{up(1023), gap, 0, fastest},
		{1025, 2 * gap, 0, fastest},
		{2047, gap, 1.5 / 2048, fastest}, // u1 is 2048, u2 1024
		{2047, gap, 1.51 / 2048, 2048 / (1 + 1.51/1.5)},
		{2047, gap, 1.49 / 2048, fastest}, // above it
		{5000, -gap, 0, fastest},          // the cut comes behind the pull
	} {
		p := api.Plan{Gravity: x.gravity, Dt: 1, Drag: x.drag}
		s := pair{0, 2, 0, 1}.laid(g, 0, x.u)
		if u := askedSpeed(t, g, p, s, 0); !same(u, x.want) {
			t.Errorf("%v by %v: %v, want %v", x.u, p, u, x.want)
		}
		s = pair{0, 1, 0, 2}.laid(g, 0, -x.u)
		if u := askedSpeed(t, g, p, s, 0); !same(u, -x.want) {
			t.Errorf("%v by %v: %v, want %v", -x.u, p, u, -x.want)
		}
	}
}

// checked: that an edge is as the model has it, and that its speed is one that can be.
func checked(t *testing.T, g *grid.Grid, p api.Plan, s api.Sea, e int) float64 {
	t.Helper()
	two, _ := g.Edge(e)
	if open, want := Open(g, s, e), modelOpen(g, s, e); open != want {
		t.Fatalf("side %d, edge %d: open is %v; beds %v and %v, waters %d and %d", g.Side(), e, open,
			s.Bed[two.Left], s.Bed[two.Right], s.Water[two.Left], s.Water[two.Right])
	}
	u, want := Speed(g, p, s, e), modelSpeed(g, p, s, e)
	if !same(u, want) {
		t.Fatalf("side %d, edge %d at %v by %v: %v, want %v; beds %v and %v, waters %d and %d", g.Side(), e, s.Speed[e], p, u, want,
			s.Bed[two.Left], s.Bed[two.Right], s.Water[two.Left], s.Water[two.Right])
	}
	if !(u >= -fastest && u <= fastest) || same(u, minusZero) {
		t.Fatalf("side %d, edge %d: a speed of %v", g.Side(), e, u)
	}
	return u
}

// P16.1, P16.4, P2: against the model, over nets of many sides.
func TestAgainstTheModel(t *testing.T) {
	p := newPicker()
	open, ordinary, cut := 0, 0, 0
	for _, side := range []int{1, 1, 1, 2, 2, 3, 4, 5, 8} {
		g := made(t, side)
		for range 1 + 400/side/side {
			s, plan := p.sea(g), p.plan()
			for e := range g.Edges() {
				u := checked(t, g, plan, s, e)
				switch {
				case u == fastest || u == -fastest:
					cut++
				case u != 0:
					ordinary++
				case Open(g, s, e):
					open++
				}
			}
		}
	}
	if open < 500 || ordinary < 5000 || cut < 100 {
		t.Errorf("noughts over open edges %d, ordinary speeds %d, greatest ones %d: too few to tell anything", open, ordinary, cut)
	}
}

// P16.1, P16.4, P2: against the model, by plans, speeds and beds with any bits.
func TestAgainstTheModelByAnyBits(t *testing.T) {
	p := newPicker()
	g := made(t, 1)
	gone := 0
	for range 30000 {
		s := pond(g)
		e := int(p.next() >> 20 % 12)
		pair{0, int64(p.next() >> 20 % 3), 0, int64(p.next() >> 20 % 3)}.lay(g, s, e, math.Float64frombits(p.next()))
		plan := api.Plan{Gravity: p.scaled(600), Dt: p.scaled(600), Drag: p.scaled(600)}
		two, _ := g.Edge(e)
		if p.one(2) {
			s.Bed[two.Left] = p.scaled(1000)
		}
		if p.one(4) {
			s.Bed[two.Right] = math.Float64frombits(p.next())
		}
		if p.one(4) {
			plan.Gravity, plan.Dt, plan.Drag = math.Float64frombits(p.next()), math.Float64frombits(p.next()), math.Float64frombits(p.next())
		}
		if u := checked(t, g, plan, s, e); u != 0 && u > -fastest && u < fastest {
			gone++
		}
	}
	if gone < 3000 {
		t.Errorf("only %d speeds between the ends", gone)
	}
}

// P16.1, P2: against the model, at all fours of some floats as speed, Gravity, Dt and Drag, between like and unlike levels.
func TestAgainstTheModelAtTheEdges(t *testing.T) {
	g := made(t, 1)
	list := []float64{math.NaN(), 0, minusZero, least, -0x1p-1022, 0x1p-600, -0.3, 1, 1024, -0x1p600, greatest, -greatest, inf, -inf}
	for _, x := range []pair{{0, 1, 0, 1}, {0, 2, 0, 1}, {0.5, 0, 0, 1}, {greatest, 1, -greatest, 0}} {
		for _, u := range list {
			s := x.laid(g, 7, u)
			for _, gravity := range list {
				for _, dt := range list {
					for _, drag := range list {
						checked(t, g, api.Plan{Gravity: gravity, Dt: dt, Drag: drag}, s, 7)
					}
				}
			}
		}
	}
}

// P16.1, P2: against the model, at all fours of beds and waters.
func TestAgainstTheModelAtAllBeds(t *testing.T) {
	g := made(t, 1)
	area := g.Area(0)
	plan := api.Plan{Gravity: 1, Dt: 0.1, Drag: 0.3}
	for _, bedL := range all() {
		for _, bedR := range all() {
			for _, waterL := range []int64{math.MinInt64, -1, 0, 1, area, api.MaxWater, math.MaxInt64} {
				for _, waterR := range []int64{-area, 0, 1, 3 * area / 2, math.MaxInt64} {
					s := pond(g)
					two, _ := g.Edge(5)
					s.Bed[two.Left], s.Bed[two.Right], s.Water[two.Left], s.Water[two.Right] = bedL, bedR, waterL, waterR
					s.Speed[5] = -0.7
					checked(t, g, plan, s, 5)
				}
			}
		}
	}
}

// P16.1: of the greatest net some edges.
func TestGreatestNet(t *testing.T) {
	g, p := made(t, api.MaxSide), newPicker()
	s, plan := p.sea(g), api.Plan{Gravity: 9.81, Dt: 0.01, Drag: 0.1}
	l := answered(t, g, plan, s)
	for e := 0; e < g.Edges(); e += 7 {
		if u := checked(t, g, plan, s, e); !same(u, l[e]) {
			t.Fatalf("edge %d: Speeds has %v, Speed %v", e, l[e], u)
		}
	}
}

// P16.1: Speeds has Speed of each edge, in order.
func TestSpeedsInOrder(t *testing.T) {
	p := newPicker()
	for _, side := range []int{1, 2, 3, 7} {
		g := made(t, side)
		for range 10 {
			s, plan := p.sea(g), p.plan()
			for e, u := range answered(t, g, plan, s) {
				if v := Speed(g, plan, s, e); !same(u, v) {
					t.Fatalf("side %d, edge %d: Speeds has %v, Speed %v", side, e, u, v)
				}
			}
		}
	}
}

// P16.1: of the plan Gravity, Dt and Drag alone count, of the sea neither tracer nor sky nor step.
func TestWhatIsNotLookedAt(t *testing.T) {
	g, p := made(t, 2), newPicker()
	plan, s := api.Plan{Gravity: 1, Dt: 0.25, Drag: 0.5}, p.sea(g)
	want := answered(t, g, plan, s)
	for range 50 {
		plan.Side, plan.Limiter, plan.Rivers = int(p.next()), int(p.next()), p.one(2)
		plan.Rains = []api.Rain{{Cell: int(p.next()), Amount: int64(p.next()), From: int(p.next()), To: int(p.next())}}
		s.Sky, s.Step = int64(p.next()), int(p.next())
		for cell := range s.Tracer {
			s.Tracer[cell] = int64(p.next())
		}
		if l := answered(t, g, plan, s); !sameLists(l, want) {
			t.Fatalf("by the plan %v: %v, want %v", plan, l, want)
		}
	}
}

// P16.1: edges that there are not.
func TestNoSuchEdge(t *testing.T) {
	plan := api.Plan{Gravity: 1, Dt: 0.5}
	for _, side := range []int{1, 2, 5} {
		g := made(t, side)
		s := pond(g)
		for e := range s.Speed {
			s.Speed[e] = 1
		}
		for _, e := range []int{math.MinInt, math.MinInt + 1, -1 << 32, -g.Edges(), -g.Edges() + 1, -2, -1,
			g.Edges(), g.Edges() + 1, 2 * g.Edges(), 1 << 31, 1 << 32, 1<<32 + 1, math.MaxInt - 1, math.MaxInt} {
			if u := Speed(g, plan, s, e); Open(g, s, e) || !same(u, 0) {
				t.Errorf("side %d: edge %d has the speed %v", side, e, u)
			}
		}
		for _, e := range []int{0, g.Edges() - 1} {
			if u := Speed(g, plan, s, e); !Open(g, s, e) || !same(u, 1) {
				t.Errorf("side %d: edge %d has the speed %v", side, e, u)
			}
		}
	}
}

// P16.1: a nil net comes ahead of all else.
func TestNilNet(t *testing.T) {
	for _, s := range []api.Sea{{}, {Bed: []float64{}, Water: []int64{}, Tracer: []int64{}, Speed: []float64{}}, pond(made(t, 1)), {Bed: nans()}} {
		for _, plan := range []api.Plan{{}, {Side: 1, Gravity: 1, Dt: 0.5}, {Dt: math.NaN()}} {
			for _, e := range []int{math.MinInt, -1, 0, 1, 11, math.MaxInt} {
				if u := Speed(nil, plan, s, e); Open(nil, s, e) || !same(u, 0) {
					t.Errorf("edge %d of a nil net: %v", e, u)
				}
			}
			if l, err := Speeds(nil, plan, s); err != api.ErrNil || len(l) != 0 {
				t.Errorf("%v of %v: %v, %d", plan, s, l, err)
			}
		}
	}
}

// others: lists that are nil, too short and too long, the spare room of which would do.
func others[T any](list []T) [][]T {
	long := append(slices.Clone(list), list[0])
	return [][]T{nil, {}, list[:1], list[:len(list)-1], list[1:], long, append(long, list...)}
}

// refused: that nothing is told of a sea that doesn't fit.
func refused(t *testing.T, g *grid.Grid, s api.Sea, what string) {
	t.Helper()
	for _, plan := range []api.Plan{{}, {Side: g.Side(), Gravity: 1, Dt: 0.5}, {Dt: math.NaN()}} {
		for _, e := range []int{-1, 0, 1, g.Edges() - 1, g.Edges()} {
			if u := Speed(g, plan, s, e); Open(g, s, e) || !same(u, 0) {
				t.Errorf("side %d, %s: edge %d has the speed %v", g.Side(), what, e, u)
			}
		}
		if l, err := Speeds(g, plan, s); err != api.ErrArg || len(l) != 0 {
			t.Errorf("side %d, %s: %v, %d", g.Side(), what, l, err)
		}
	}
}

// P16.1: each of the four lists that doesn't fit, and the seas of other nets.
func TestListsThatDoNotFit(t *testing.T) {
	for _, side := range []int{1, 2} {
		g := made(t, side)
		fast := func() api.Sea {
			s := pond(g)
			for e := range s.Speed {
				s.Speed[e] = 1
			}
			return s
		}
		for k := range others(fast().Bed) {
			for list, what := range []string{"beds", "waters", "tracers", "speeds"} {
				s := fast()
				switch list {
				case 0:
					s.Bed = others(s.Bed)[k]
				case 1:
					s.Water = others(s.Water)[k]
				case 2:
					s.Tracer = others(s.Tracer)[k]
				case 3:
					s.Speed = others(s.Speed)[k]
				}
				refused(t, g, s, what)
			}
		}
		refused(t, g, api.Sea{}, "no lists")
		refused(t, g, pond(made(t, side+1)), "the pond of another net")
		s := fast()
		s.Speed = s.Speed[:g.Cells()]
		refused(t, g, s, "as many speeds as cells")
		answered(t, g, api.Plan{}, fast())
	}
}

// P16.2: rest, by all plans that aren't below 0.
func TestRest(t *testing.T) {
	g, p := made(t, 2), newPicker()
	e := 17
	two, _ := g.Edge(e)
	for range 300 {
		s := p.sea(g)
		depth := 1 + int64(p.next()>>20%9)
		switch bed := p.scaled(4); {
		case p.one(2):
			pair{float64(depth), 2, 2, depth}.lay(g, s, e, 0)
		case p.one(2):
			pair{bed, depth, bed, depth}.lay(g, s, e, 0)
		default: // a dry cell whose bed is at the level
			pair{bed + float64(depth), 0, bed, depth}.lay(g, s, e, 0)
		}
		l := level.Level(s.Bed[two.Left], s.Water[two.Left], g.Area(two.Left))
		if r := level.Level(s.Bed[two.Right], s.Water[two.Right], g.Area(two.Right)); !same(l, r) {
			t.Fatalf("levels of %v and %v: the test is wrong", l, r)
		}
		for _, gravity := range atLeast0() {
			for _, dt := range atLeast0() {
				for _, drag := range atLeast0() {
					plan := api.Plan{Gravity: gravity, Dt: dt, Drag: drag}
					if u := Speed(g, plan, s, e); !same(u, 0) {
						t.Fatalf("%v by %v: %v", s, plan, u)
					}
				}
			}
		}
	}
	for _, side := range []int{1, 3, 8} {
		g := made(t, side)
		for e, u := range answered(t, g, api.Plan{Gravity: 9.81, Dt: 0.5, Drag: 0.1}, pond(g)) {
			if !same(u, 0) {
				t.Errorf("the pond of side %d: over %d %v", side, e, u)
			}
		}
	}
}

// exchanged: the sea in which the beds and waters of an edge's cells are exchanged, and its speed is turned round.
func exchanged(g *grid.Grid, s api.Sea, e int) api.Sea {
	r := api.Sea{Bed: slices.Clone(s.Bed), Water: slices.Clone(s.Water), Tracer: s.Tracer, Speed: slices.Clone(s.Speed)}
	x, _ := g.Edge(e)
	r.Bed[x.Left], r.Bed[x.Right] = s.Bed[x.Right], s.Bed[x.Left]
	r.Water[x.Left], r.Water[x.Right] = s.Water[x.Right], s.Water[x.Left]
	r.Speed[e] = -s.Speed[e]
	return r
}

// round: a speed turned round, as it is kept.
func round(u float64) float64 {
	if u == 0 {
		return 0
	}
	return -u
}

// P16.3: over all edges whose cells have one area.
func TestMirrored(t *testing.T) {
	p := newPicker()
	asked, moved := 0, 0
	for _, side := range []int{1, 1, 1, 2, 2, 3, 4, 5} {
		g := made(t, side)
		for range 1 + 60/side/side {
			s, plan := p.sea(g), p.plan()
			for e := range g.Edges() {
				x, _ := g.Edge(e)
				if g.Area(x.Left) != g.Area(x.Right) {
					continue
				}
				r := exchanged(g, s, e)
				u, v := Speed(g, plan, s, e), Speed(g, plan, r, e)
				if !same(v, round(u)) || Open(g, s, e) != Open(g, r, e) {
					t.Fatalf("side %d, edge %d by %v: %v, mirrored %v", side, e, plan, u, v)
				}
				asked++
				if u != 0 {
					moved++
				}
			}
		}
	}
	if asked < 1000 || moved < 500 {
		t.Errorf("of %d edges %d moved: too few to tell anything", asked, moved)
	}
}

// P16.3: at the edges: by all twos of some floats as beds, and by all speeds.
func TestMirroredAtTheEdges(t *testing.T) {
	g := made(t, 1)
	for _, bedL := range all() {
		for _, bedR := range all() {
			for _, depths := range [][2]int64{{1, 1}, {1, 0}, {0, 2}, {0, -1}, {3, 1}} {
				for _, u := range []float64{0, minusZero, least, -0.5, 1024, 1025, -inf, math.NaN()} {
					for _, plan := range []api.Plan{{Gravity: 1, Dt: 0.5}, {Gravity: 0, Dt: 1, Drag: -1}, {Gravity: 0x1p-1000, Dt: 3, Drag: 7}} {
						s := pair{bedL, depths[0], bedR, depths[1]}.laid(g, 2, u)
						r := exchanged(g, s, 2)
						if v, w := Speed(g, plan, s, 2), Speed(g, plan, r, 2); !same(w, round(v)) || Open(g, s, 2) != Open(g, r, 2) {
							t.Fatalf("beds %v and %v, depths %v, %v by %v: %v, mirrored %v", bedL, bedR, depths, u, plan, v, w)
						}
					}
				}
			}
		}
	}
}

// turned: the sea that a turn of the cube makes of a sea, and where each edge is then, with the sign of its way.
func turned(g *grid.Grid, turn int, s api.Sea) (api.Sea, []int, []int) {
	out := pond(g)
	for cell := range s.Bed {
		to, _ := cube.Turn(g.Side(), turn, cell)
		out.Bed[to], out.Water[to] = s.Bed[cell], s.Water[cell]
	}
	edges, signs := make([]int, g.Edges()), make([]int, g.Edges())
	for e, u := range s.Speed {
		x, _ := g.Edge(e)
		to, q := cube.Turn(g.Side(), turn, x.Left)
		edges[e], signs[e] = g.Around(to, (x.Side+q)%4)
		out.Speed[edges[e]] = u * float64(signs[e])
	}
	return out, edges, signs
}

// P16.3, P5: with the cube turned each edge has its speed, whichever cell is the Left there.
func TestTurnsOfTheCube(t *testing.T) {
	p := newPicker()
	for _, side := range []int{1, 2, 3, 4} {
		g := made(t, side)
		for turn := range 24 {
			s, plan := p.sea(g), p.plan()
			r, edges, signs := turned(g, turn, s)
			there := answered(t, g, plan, r)
			for e, u := range answered(t, g, plan, s) {
				want := u
				if signs[e] < 0 {
					want = round(u)
				}
				if v := there[edges[e]]; !same(v, want) || Open(g, s, e) != Open(g, r, edges[e]) {
					t.Fatalf("side %d, turn %d: over %d %v, turned %v", side, turn, e, u, v)
				}
			}
		}
	}
}

// P16.4: a speed stays as it is while all but the edge's own and its two cells changes.
func TestTwoCellsAlone(t *testing.T) {
	p := newPicker()
	for _, side := range []int{1, 2, 3, 4} {
		g := made(t, side)
		for e := range g.Edges() {
			x, _ := g.Edge(e)
			for range 5 {
				s, r, plan := p.sea(g), p.sea(g), p.plan()
				for _, cell := range []int{x.Left, x.Right} {
					r.Bed[cell], r.Water[cell] = s.Bed[cell], s.Water[cell]
				}
				r.Speed[e] = s.Speed[e]
				u, v := answered(t, g, plan, s)[e], answered(t, g, plan, r)[e]
				if !same(u, v) || Open(g, s, e) != Open(g, r, e) || !same(Speed(g, plan, r, e), v) {
					t.Fatalf("side %d: over %d %v and %v", side, e, u, v)
				}
			}
		}
	}
}

// roomy: the list with spare room behind it that isn't empty.
func roomy[T any](list []T) []T { return append(slices.Clone(list), list...)[:len(list)] }

// whole: the bits of a list and of its spare room.
func whole(list []float64) []uint64 {
	var out []uint64
	for _, x := range list[:cap(list)] {
		out = append(out, math.Float64bits(x))
	}
	return out
}

// P16.5.
func TestWhatIsHandedInStays(t *testing.T) {
	g, p := made(t, 2), newPicker()
	plan, s := api.Plan{Gravity: 1, Dt: 0.25, Drag: 0.5, Rains: roomy([]api.Rain{{Cell: 1, Amount: 2, From: 3, To: 4}})}, p.sea(g)
	s.Bed, s.Water, s.Tracer, s.Speed = roomy(s.Bed), roomy(s.Water), roomy(s.Tracer), roomy(s.Speed)
	beds, speeds, rains := whole(s.Bed), whole(s.Speed), slices.Clone(plan.Rains[:cap(plan.Rains)])
	waters, tracers := slices.Clone(s.Water[:cap(s.Water)]), slices.Clone(s.Tracer[:cap(s.Tracer)])
	first := answered(t, g, plan, s)
	kept := slices.Clone(first)
	for e := range first {
		Open(g, s, e)
		Speed(g, plan, s, e)
	}
	second := answered(t, g, plan, s)
	room := second[:cap(second)]
	for k := range room {
		room[k] = -7
	}
	if !sameLists(first, kept) {
		t.Error("a list that was answered has changed with a later one")
	}
	if !slices.Equal(whole(s.Bed), beds) || !slices.Equal(whole(s.Speed), speeds) || !slices.Equal(plan.Rains[:cap(plan.Rains)], rains) ||
		!slices.Equal(s.Water[:cap(s.Water)], waters) || !slices.Equal(s.Tracer[:cap(s.Tracer)], tracers) {
		t.Error("what was handed in has changed")
	}
	if third := answered(t, g, plan, s); !sameLists(third, kept) {
		t.Error("asked again the speeds are others")
	}
	for e := range s.Speed {
		s.Speed[e] = 1
	}
	for cell := range s.Water {
		s.Water[cell], s.Bed[cell] = 1, 1
	}
	if !sameLists(first, kept) {
		t.Error("the answer hangs on what was handed in")
	}
}

// Calls at the same time, over the same net and sea, answer the same.
func TestCallsAtTheSameTime(t *testing.T) {
	g, p := made(t, 4), newPicker()
	s, plan := p.sea(g), api.Plan{Gravity: 1, Dt: 0.25, Drag: 0.5}
	want := answered(t, g, plan, s)
	rows := make([][]float64, 8)
	var calls sync.WaitGroup
	for k := range rows {
		calls.Go(func() { rows[k], _ = Speeds(g, plan, s) })
	}
	calls.Wait()
	for k, l := range rows {
		if !sameLists(l, want) {
			t.Errorf("call %d answered other speeds", k)
		}
	}
}
