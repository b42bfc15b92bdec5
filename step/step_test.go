package step

import (
	"math"
	"slices"
	"testing"

	"tarn/api"
	"tarn/grid"
	"tarn/state"
)

const (
	last  = math.MaxInt64
	first = math.MinInt64
	most  = 1 << 52
	least = math.SmallestNonzeroFloat64

	area1 = 1431655765 // of each cell of the net of side 1, whose edges have the length 1.1547005383792517 and the gap 1.4142135623730951
)

var (
	inf       = math.Inf(1)
	minusZero = math.Copysign(0, -1)
	nan       = math.NaN()
)

func made(t *testing.T, side int) *grid.Grid {
	t.Helper()
	g, errno := grid.New(side)
	if g == nil || errno != api.OK {
		t.Fatalf("grid.New(%d) is %v, %d", side, g, errno)
	}
	return g
}

// dry: a sea without water, its beds and speeds +0.
func dry(g *grid.Grid) api.Sea {
	return api.Sea{
		Bed:    make([]float64, g.Cells()),
		Water:  make([]int64, g.Cells()),
		Tracer: make([]int64, g.Cells()),
		Speed:  make([]float64, g.Edges()),
	}
}

// pond of a depth that is a whole number.
func pond(g *grid.Grid, depth int64) api.Sea {
	s := dry(g)
	for cell := range s.Water {
		s.Water[cell] = depth * g.Area(cell)
	}
	return s
}

// calm: the plan of the chapter's examples, of any side.
func calm(side int) api.Plan { return api.Plan{Side: side, Dt: 0.5, Gravity: 1} }

func total(list []int64) int64 { // of a sea that can be: at most 2^52
	sum := int64(0)
	for _, n := range list {
		sum += n
	}
	return sum
}

func below(n int64) bool { return n < 0 }

// set: n noughts, but for those that are named.
func set(n int, of map[int]int64) []int64 {
	list := make([]int64, n)
	for k, x := range of {
		list[k] = x
	}
	return list
}

// stepped: the sea behind a step, and the flow of the step; both are held against the model, and against all that is promised
// of every step of a sea that can be.
func stepped(t *testing.T, what string, g *grid.Grid, p api.Plan, s api.Sea) (api.Sea, api.Flow) {
	t.Helper()
	next, errno := One(g, p, s)
	flow, other := Flow(g, p, s)
	if errno != api.OK || other != api.OK {
		t.Fatalf("%s: errors %d and %d", what, errno, other)
	}
	m := modelOf(g, p, s)
	if want := m.next(); !same(next, want) {
		t.Fatalf("%s: the step by %v of\n%v is\n%v, want\n%v", what, p, s, next, want)
	}
	if want := (api.Flow{Water: m.water, Tracer: m.tracer}); !sameFlow(flow, want) {
		t.Fatalf("%s: the flow by %v of\n%v is\n%v, want\n%v", what, p, s, flow, want)
	}
	if place, errno := state.Check(g.Side(), next); errno != api.OK {
		t.Fatalf("%s: a sea that can't be: error %d at %d", what, errno, place)
	}
	if slices.ContainsFunc(next.Water, below) || slices.ContainsFunc(next.Tracer, below) || next.Sky < 0 {
		t.Fatalf("%s: less than nothing: %v", what, next)
	}
	if total(next.Water)+next.Sky != total(s.Water)+s.Sky || total(next.Tracer) != total(s.Tracer) {
		t.Fatalf("%s: not kept: of\n%v\n%v", what, s, next)
	}
	return next, flow
}

// The chapter's first example, and the first half of its third.
func TestPondAndNothing(t *testing.T) {
	g := made(t, 1)
	for depth := range int64(2) {
		s := pond(g, depth)
		next, flow := stepped(t, "a pond", g, calm(1), s)
		s.Step = 1
		if !same(next, s) {
			t.Errorf("depth %d: the pond has become %v", depth, next)
		}
		if nothing := make([]int64, 12); !slices.Equal(flow.Water, nothing) || !slices.Equal(flow.Tracer, nothing) {
			t.Errorf("depth %d: the pond flows: %v", depth, flow)
		}
	}
}

// The chapter's second example, by numbers reckoned by hand.
func TestHill(t *testing.T) {
	g := made(t, 1)
	s := pond(g, 1)
	s.Water[0] *= 2
	next, flow := stepped(t, "a hill", g, calm(1), s)
	const u, out = 0.35355339059327373, 438353264 // 0.5 / 1.4142135623730951; u * 2 * 1.1547005383792517 * 0.5 * 2^30
	want := api.Sea{
		Bed:    make([]float64, 6),
		Water:  []int64{2*area1 - 4*out, area1 + out, area1, area1 + out, area1 + out, area1 + out},
		Tracer: make([]int64, 6),
		Speed:  []float64{u, u, u, u, 0, 0, 0, 0, 0, 0, 0, 0},
		Step:   1,
	}
	if !same(next, want) {
		t.Errorf("the sea behind the step is\n%v, want\n%v", next, want)
	}
	if !slices.Equal(flow.Water, set(12, map[int]int64{0: out, 1: out, 2: out, 3: out})) || !slices.Equal(flow.Tracer, make([]int64, 12)) {
		t.Errorf("the flow is %v", flow)
	}
}

// The second half of the chapter's third example.
func TestExampleErrors(t *testing.T) {
	g := made(t, 1)
	other, still, few := calm(2), calm(1), dry(g)
	still.Dt = 0
	few.Water = few.Water[:5]
	for k, x := range []struct {
		p     api.Plan
		s     api.Sea
		errno api.Errno
	}{
		{other, dry(g), api.ErrArg},
		{still, dry(g), api.ErrPlan},
		{calm(1), few, api.ErrSize},
	} {
		refused(t, g, x.p, x.s, x.errno, k)
	}
}

// DOC.md's second example: 2^20 quanta more in one cell of the pond.
func TestSmallHill(t *testing.T) {
	g := made(t, 1)
	s := pond(g, 1)
	s.Water[0] += 1 << 20
	next, _ := stepped(t, "a small hill", g, calm(1), s)
	for e, u := range next.Speed {
		if e < 4 && !(u > 0) || e >= 4 && math.Float64bits(u) != 0 {
			t.Errorf("the speed over edge %d is %v", e, u)
		}
	}
	if next.Water[0] >= s.Water[0] {
		t.Error("cell 0 has no less water")
	}
	for _, cell := range []int{1, 3, 4, 5} {
		if next.Water[cell] <= s.Water[cell] {
			t.Errorf("cell %d has no more water", cell)
		}
	}
}

// DOC.md's eighth example: the rain of two steps is more than the sky has.
func TestSkyRunsDry(t *testing.T) {
	g := made(t, 1)
	s, p := pond(g, 1), calm(1)
	s.Sky = 150
	p.Gravity = 0 // what comes down stays
	p.Rains = []api.Rain{{Cell: 3, Amount: 100, From: 0, To: 2}}
	for k, sky := range []int64{50, 0, 0} {
		s, _ = stepped(t, "rain", g, p, s)
		if s.Sky != sky || s.Water[3] != area1+150-sky || s.Step != k+1 {
			t.Errorf("behind step %d: sky %d, cell 3 has %d, Step %d", k, s.Sky, s.Water[3], s.Step)
		}
	}
}

// DOC.md's ninth example: over a closed edge the old speed is lost, and nothing goes.
func TestClosedEdge(t *testing.T) {
	g := made(t, 1)
	for _, x := range []struct {
		depth int64
		speed float64
	}{{4, 0}, {5, 0}, {6, 3}} {
		s, p := dry(g), calm(1)
		p.Gravity = 0
		s.Bed[1], s.Water[0], s.Speed[0] = 5, x.depth*area1, 3
		next, flow := stepped(t, "a wall", g, p, s)
		if next.Speed[0] != x.speed || flow.Water[0] > 0 != (x.speed > 0) {
			t.Errorf("depth %d: speed %v, flow %d", x.depth, next.Speed[0], flow.Water[0])
		}
	}
}

// burst: a thousand quanta and a hundred of tracer in cell 0, which would give far more over each of its edges; so it gives
// all, 250 and 25 to each of 1, 3, 4 and 5. Cell 5 lies lower than all others. No level pulls.
func burst(g *grid.Grid) (api.Plan, api.Sea) {
	s := dry(g)
	s.Bed[5], s.Water[0], s.Tracer[0], s.Sky = -1, 1000, 100, 400
	for e := range 4 {
		s.Speed[e] = 1024
	}
	return api.Plan{Side: 1, Dt: 1024}, s
}

// P21.1, P21.2: that the parts come in their order, each out of what the chapter says, by numbers reckoned by hand.
func TestPartsInOrder(t *testing.T) {
	g := made(t, 1)
	everything := int64(most)
	for _, x := range []struct {
		what          string
		rains         []api.Rain
		rivers        bool
		water, tracer []int64
		sky           int64
	}{
		{"neither", nil, false, []int64{0, 250, 0, 250, 250, 250}, []int64{0, 25, 0, 25, 25, 25}, 400},
		{"a rain on the cell that gives comes behind it", []api.Rain{{Cell: 0, Amount: 7, To: 1}}, false, []int64{7, 250, 0, 250, 250, 250}, []int64{0, 25, 0, 25, 25, 25}, 393},
		{"what has come goes up", []api.Rain{{Cell: 1, Amount: -everything, To: 1}}, false, []int64{0, 0, 0, 250, 250, 250}, []int64{0, 25, 0, 25, 25, 25}, 650},
		{"what has gone doesn't", []api.Rain{{Cell: 0, Amount: -everything, To: 1}}, false, []int64{0, 250, 0, 250, 250, 250}, []int64{0, 25, 0, 25, 25, 25}, 400},
		{"up, and down again", []api.Rain{{Cell: 1, Amount: -50, To: 1}, {Cell: 2, Amount: everything, To: 1}}, false, []int64{0, 200, 450, 250, 250, 250}, []int64{0, 25, 0, 25, 25, 25}, 0},
		{"down, and up again", []api.Rain{{Cell: 2, Amount: everything, To: 1}, {Cell: 1, Amount: -50, To: 1}}, false, []int64{0, 200, 400, 250, 250, 250}, []int64{0, 25, 0, 25, 25, 25}, 50},
		{"a rain that has ended", []api.Rain{{Cell: 1, Amount: -50, To: 0}}, false, []int64{0, 250, 0, 250, 250, 250}, []int64{0, 25, 0, 25, 25, 25}, 400},
		{"a rain of the next step", []api.Rain{{Cell: 1, Amount: -50, From: 1, To: 2}}, false, []int64{0, 250, 0, 250, 250, 250}, []int64{0, 25, 0, 25, 25, 25}, 400},
		{"rivers", nil, true, []int64{0, 188, 0, 188, 250, 374}, []int64{0, 19, 0, 19, 25, 37}, 400},
		{"rivers behind a rain", []api.Rain{{Cell: 1, Amount: 402, To: 1}}, true, []int64{0, 488, 0, 188, 250, 474}, []int64{0, 19, 0, 19, 25, 37}, 0},
		{"rivers behind what went up", []api.Rain{{Cell: 1, Amount: -50, To: 1}}, true, []int64{0, 150, 0, 188, 250, 362}, []int64{0, 19, 0, 19, 25, 37}, 450},
		{"a rain out of its time leaves the rivers", []api.Rain{{Cell: 1, Amount: -50, From: 1, To: 2}}, true, []int64{0, 188, 0, 188, 250, 374}, []int64{0, 19, 0, 19, 25, 37}, 400},
	} {
		p, s := burst(g)
		p.Rains, p.Rivers = x.rains, x.rivers
		next, flow := stepped(t, x.what, g, p, s)
		want := api.Sea{Bed: s.Bed, Water: x.water, Tracer: x.tracer, Speed: s.Speed, Sky: x.sky, Step: 1}
		if !same(next, want) {
			t.Errorf("%s:\n%v, want\n%v", x.what, next, want)
		}
		if !slices.Equal(flow.Water, set(12, map[int]int64{0: 250, 1: 250, 2: 250, 3: 250})) {
			t.Errorf("%s: the flow of water is %v", x.what, flow.Water)
		}
		if !slices.Equal(flow.Tracer, set(12, map[int]int64{0: 25, 1: 25, 2: 25, 3: 25})) {
			t.Errorf("%s: the flow of the tracer is %v", x.what, flow.Tracer)
		}
	}
}

// P21.1: what ran into a cell in this step pulls in the next one only, and a new speed carries water at once.
func TestSpeedsAheadOfWater(t *testing.T) {
	g := made(t, 1)
	s, p := pond(g, 1), calm(1)
	s.Sky = area1
	p.Rains = []api.Rain{{Cell: 0, Amount: area1, To: 1}}
	rained, flow := stepped(t, "rain on a pond", g, p, s)
	if !slices.Equal(rained.Speed, make([]float64, 12)) || !slices.Equal(flow.Water, make([]int64, 12)) || rained.Water[0] != 2*area1 {
		t.Errorf("the rain pulls ahead of its fall: %v, %v", rained, flow)
	}
	next, flow := stepped(t, "behind the rain", g, p, rained)
	if next.Speed[0] != 0.35355339059327373 || flow.Water[0] != 438353264 {
		t.Errorf("the rain doesn't pull behind its fall: %v, %v", next, flow)
	}
}

// P21.1: the speed that a step begins with doesn't carry water, only the one that comes of it.
func TestNewSpeedsCarry(t *testing.T) {
	g := made(t, 1)
	s, p := pond(g, 1), api.Plan{Side: 1, Dt: 0.5, Drag: 2}
	s.Speed[0], s.Speed[4] = 1, -1
	next, flow := stepped(t, "drag", g, p, s)
	const out = 309962566 // 0.5 * 1 * 1.1547005383792517 * 0.5 * 2^30, in which the first 0.5 is 1 / (1 + 2 * 0.5 * 1 / 1)
	if next.Speed[0] != 0.5 || next.Speed[4] != -0.5 || flow.Water[0] != out || flow.Water[4] != -out {
		t.Errorf("speeds %v, flow %v", next.Speed, flow.Water)
	}
	if !slices.Equal(next.Water, []int64{area1 - out, area1 + 2*out, area1 - out, area1, area1, area1}) {
		t.Errorf("water %v", next.Water)
	}
}

// P21.1: the number of steps, at both ends of what there is; rains look at the one ahead of the step.
func TestStepNumbers(t *testing.T) {
	g := made(t, 1)
	p := calm(1)
	for _, x := range []struct{ from, to, step, behind int }{
		{0, 1, 0, 1},
		{1, 2, 1, 2},
		{1<<62 - 2, 1<<62 - 1, 1<<62 - 2, 1<<62 - 1},
		{1<<62 - 1, 1 << 62, 1<<62 - 1, 1 << 62},
		{1 << 62, 1<<62 + 1, 1 << 62, 1 << 62},
		{1 << 62, last, 1 << 62, 1 << 62},
	} {
		s := dry(g)
		s.Sky, s.Step = 10, x.step
		p.Rains = []api.Rain{{Cell: 5, Amount: 3, From: x.from, To: x.to}, {Cell: 4, Amount: 1, From: x.to, To: last}, {Cell: 4, Amount: 1, From: 0, To: x.from}}
		next, _ := stepped(t, "numbers", g, p, s)
		if next.Step != x.behind || next.Water[5] != 3 || next.Water[4] != 0 || next.Sky != 7 {
			t.Errorf("Step %d: %v", x.step, next)
		}
	}
}

// P21.2: flows hang neither on rains nor on rivers, nor on the sky, nor on the number of the step.
func TestFlowWithoutWeather(t *testing.T) {
	p, s := burst(made(t, 1))
	g := made(t, 1)
	want, _ := Flow(g, p, s)
	p.Rivers, p.Rains = true, []api.Rain{{Cell: 0, Amount: -500, To: 9}, {Cell: 1, Amount: 9, To: 1}}
	for _, step := range []int{0, 1, 8, 9, 1 << 62} {
		s.Step, s.Sky = step, int64(step)>>20
		if _, flow := stepped(t, "weather", g, p, s); !sameFlow(flow, want) || flow.Water[0] != 250 {
			t.Errorf("Step %d: %v", step, flow)
		}
	}
}
