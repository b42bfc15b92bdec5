package work

import (
	"fmt"
	"math"
	"slices"
	"testing"

	"tarn/api"
	"tarn/grid"
	"tarn/state"
	"tarn/step"
)

// wrongWorkers: just outside, far outside and at the ends; and where an int of 32 bits would be a number that can be.
func wrongWorkers() []int {
	return []int{0, -1, 65, 66, 128, -64, 1 << 32, 1<<32 + 1, -1<<32 + 1, first, first + 1, last - 1, last}
}

func wrongOrders() [][]int {
	out := [][]int{
		nil, {}, {1}, {-1}, {last}, {first}, {0, 0}, {1, 1}, {0, 2}, {2, 0}, {0, -1}, {-1, 0}, {1, 2}, {0, 1, 1}, {0, 2, 2}, {0, 1, 3},
		{0, last}, {first, 0}, {1 << 32}, {1 << 32, 1}, {1<<32 + 1, 0}, upTo(65), opposite(upTo(65)), upTo(66), upTo(1000), make([]int, 64), make([]int, 65),
	}
	for _, at := range []int{0, 31, 63} {
		for _, k := range []int{-1, 64, 65, at + 1, at - 1, at ^ 1, first, last} {
			list := upTo(64)
			list[at] = k
			out = append(out, list)
		}
	}
	return out
}

// refused: whether both calls answer this error, and nothing beside it.
func refused(t *testing.T, what string, g *grid.Grid, p api.Plan, s api.Sea, want api.Errno, workers int, order []int) {
	t.Helper()
	if next, errno := One(g, p, s, workers); errno != want || !nothing(next) {
		t.Errorf("%s: %d workers: %v, %d, want %d", what, workers, next, errno, want)
	}
	if next, errno := Scheduled(g, p, s, order); errno != want || !nothing(next) {
		t.Errorf("%s: order %v: %v, %d, want %d", what, order, next, errno, want)
	}
}

func nothing(s api.Sea) bool { return state.Same(s, api.Sea{}) }

// fault of a plan or a sea of side 1.
type fault struct {
	what  string
	errno api.Errno
	make  func(p *api.Plan, s *api.Sea)
}

// planFaults: in the order in which they are told.
func planFaults() []fault {
	var out []fault
	add := func(what string, errno api.Errno, make func(p *api.Plan)) {
		out = append(out, fault{what, errno, func(p *api.Plan, _ *api.Sea) { make(p) }})
	}
	minusZero, inf := math.Copysign(0, -1), math.Inf(1)
	for _, x := range []float64{0, minusZero, -least, -1, math.Nextafter(1024, inf), inf, -inf, math.NaN()} {
		add(fmt.Sprint("Dt ", x), api.ErrPlan, func(p *api.Plan) { p.Dt = x })
	}
	for _, x := range []float64{minusZero, -least, math.Nextafter(1024, inf), 1025, inf, -inf, math.NaN()} {
		add(fmt.Sprint("Gravity ", x), api.ErrPlan, func(p *api.Plan) { p.Gravity = x })
		add(fmt.Sprint("Drag ", x), api.ErrPlan, func(p *api.Plan) { p.Drag = x })
	}
	for _, k := range []int{-1, 4, first, last} {
		add(fmt.Sprint("Limiter ", k), api.ErrPlan, func(p *api.Plan) { p.Limiter = k })
	}
	add("too many rains", api.ErrRain, func(p *api.Plan) { p.Rains = make([]api.Rain, 1025) })
	for _, r := range []api.Rain{{Cell: -1}, {Cell: 6}, {Cell: last}, {Amount: most + 1}, {Amount: -most - 1}, {From: -1}, {From: 3, To: 2}, {To: -1}} {
		add(fmt.Sprint("rain ", r), api.ErrRain, func(p *api.Plan) { p.Rains = []api.Rain{{}, r} })
	}
	return out
}

// seaFaults: in the order in which they are told.
func seaFaults() []fault {
	var out []fault
	add := func(what string, errno api.Errno, make func(s *api.Sea)) {
		out = append(out, fault{what, errno, func(_ *api.Plan, s *api.Sea) { make(s) }})
	}
	minusZero, inf := math.Copysign(0, -1), math.Inf(1)
	add("no beds", api.ErrSize, func(s *api.Sea) { s.Bed = nil })
	add("a bed too many", api.ErrSize, func(s *api.Sea) { s.Bed = append(s.Bed, 0) })
	add("a water too few", api.ErrSize, func(s *api.Sea) { s.Water = s.Water[:5] })
	add("no tracers", api.ErrSize, func(s *api.Sea) { s.Tracer = nil })
	add("a speed too few", api.ErrSize, func(s *api.Sea) { s.Speed = s.Speed[:11] })
	add("a speed for each cell", api.ErrSize, func(s *api.Sea) { s.Speed = s.Speed[:6] })
	for _, x := range []float64{minusZero, math.Nextafter(0x1p20, inf), math.Nextafter(-0x1p20, -inf), inf, math.NaN()} {
		add(fmt.Sprint("bed ", x), api.ErrBed, func(s *api.Sea) { s.Bed[5] = x })
	}
	for _, n := range []int64{-1, first, most + 1, last} {
		add(fmt.Sprint("sky ", n), api.ErrSky, func(s *api.Sea) { s.Sky = n })
	}
	for _, n := range []int64{-1, first, most - 1, last} { // the sky has 2
		add(fmt.Sprint("water ", n), api.ErrWater, func(s *api.Sea) { s.Water[5] = n })
	}
	for _, n := range []int64{-1, first, most + 1, last} {
		add(fmt.Sprint("tracer ", n), api.ErrTracer, func(s *api.Sea) { s.Tracer[5] = n })
	}
	for _, x := range []float64{minusZero, math.Nextafter(1024, inf), -1025, inf, -inf, math.NaN()} {
		add(fmt.Sprint("speed ", x), api.ErrSpeed, func(s *api.Sea) { s.Speed[11] = x })
	}
	for _, n := range []int{-1, first, 1<<62 + 1, last} {
		add(fmt.Sprint("Step ", n), api.ErrArg, func(s *api.Sea) { s.Step = n })
	}
	return out
}

// sound: a plan and a sea that can be, of side 1.
func sound(g *grid.Grid) (api.Plan, api.Sea) {
	p, s := calm(1), dry(g)
	p.Rains, s.Sky = []api.Rain{{Cell: 5, Amount: 1, To: 1}}, 2
	return p, s
}

// P23.1: numbers of workers and orders that can't be, alone, and ahead of every fault of a plan and of a sea.
func TestWrongWorkers(t *testing.T) {
	g, other := made(t, 1), made(t, 2)
	faults := append(planFaults(), seaFaults()...)
	faults = append(faults, fault{"no fault", api.OK, func(*api.Plan, *api.Sea) {}})
	for _, x := range faults {
		p, s := sound(g)
		x.make(&p, &s)
		for _, net := range []*grid.Grid{g, other} {
			for _, workers := range wrongWorkers() {
				refused(t, x.what, net, p, s, api.ErrArg, workers, nil)
			}
			for _, order := range wrongOrders() {
				refused(t, x.what, net, p, s, api.ErrArg, 0, order)
			}
		}
	}
	refused(t, "neither plan nor sea", g, api.Plan{}, api.Sea{}, api.ErrArg, 0, nil)
}

// P23.1: no net comes ahead of all else.
func TestNoNet(t *testing.T) {
	g := made(t, 1)
	faults := append(planFaults(), seaFaults()...)
	faults = append(faults, fault{"no fault", api.OK, func(*api.Plan, *api.Sea) {}})
	for _, x := range faults {
		p, s := sound(g)
		x.make(&p, &s)
		for k, order := range append(wrongOrders(), []int{0}, []int{1, 0}, upTo(64)) {
			workers := append(wrongWorkers(), 1, 2, 64)
			refused(t, x.what, nil, p, s, api.ErrNil, workers[k%len(workers)], order)
		}
	}
	refused(t, "nothing at all", nil, api.Plan{}, api.Sea{}, api.ErrNil, 0, nil)
}

// P23.1: every fault of a plan and of a sea, alone and with every later one beside it, is the error of layer 21.
func TestFaults(t *testing.T) {
	g, pick := made(t, 1), newPicker()
	faults := append(planFaults(), seaFaults()...)
	for k, x := range faults {
		for n, later := range faults[k:] { // the fault itself is the first of them
			p, s := sound(g)
			later.make(&p, &s)
			x.make(&p, &s) // behind the later one, which may ask for places that it takes away
			workers := 1 + (k+n)%64
			refused(t, x.what+" with "+later.what, g, p, s, x.errno, workers, pick.order(workers))
			if _, errno := step.One(g, p, s); errno != x.errno {
				t.Errorf("%s with %s: layer 21 has error %d, want %d", x.what, later.what, errno, x.errno)
			}
		}
	}
}

// P23.1: a net of another side than the plan's comes ahead of the plan's and the sea's faults, also of a side that there isn't.
func TestOtherSides(t *testing.T) {
	g, other := made(t, 1), made(t, 2)
	faults := append(planFaults(), seaFaults()...)
	faults = append(faults, fault{"no fault", api.OK, func(*api.Plan, *api.Sea) {}})
	for _, x := range faults {
		p, s := sound(g)
		x.make(&p, &s)
		refused(t, "another net, "+x.what, other, p, s, api.ErrArg, 2, []int{1, 0})
		for _, side := range []int{first, -1, 0, 2, 31, 32, 33, 1 << 32, 1<<32 + 1, last} {
			p.Side = side
			refused(t, fmt.Sprint("side ", side, ", ", x.what), g, p, s, api.ErrArg, 64, upTo(64))
		}
	}
	refused(t, "neither plan nor sea", g, api.Plan{}, api.Sea{}, api.ErrArg, 1, []int{0})
	refused(t, "no sea", g, calm(1), api.Sea{}, api.ErrSize, 1, []int{0})
	refused(t, "a sea of another side", g, calm(1), dry(other), api.ErrSize, 3, []int{2, 0, 1})
	refused(t, "a sea of another side", other, calm(2), dry(g), api.ErrSize, 3, []int{2, 0, 1})
	refused(t, "a plan of another side", other, calm(1), dry(other), api.ErrArg, 3, []int{2, 0, 1})
}

// P23.1: what stands just inside the limits is taken.
func TestJustInside(t *testing.T) {
	g, pick := made(t, 1), newPicker()
	for _, x := range []struct {
		what string
		make func(p *api.Plan, s *api.Sea)
	}{
		{"nothing changed", func(*api.Plan, *api.Sea) {}},
		{"the least Dt", func(p *api.Plan, _ *api.Sea) { p.Dt = least }},
		{"the greatest numbers", func(p *api.Plan, _ *api.Sea) { p.Dt, p.Gravity, p.Drag = 1024, 1024, 1024 }},
		{"no numbers", func(p *api.Plan, _ *api.Sea) { p.Gravity, p.Drag = 0, 0 }},
		{"the last limiter", func(p *api.Plan, _ *api.Sea) { p.Limiter = api.Leer }},
		{"so many rains", func(p *api.Plan, _ *api.Sea) { p.Rains = slices.Repeat(p.Rains, 1024) }},
		{"great rains", func(p *api.Plan, _ *api.Sea) {
			p.Rains = []api.Rain{{Cell: 0, Amount: most, To: last}, {Cell: 5, Amount: -most, From: last, To: last}}
		}},
		{"beds", func(_ *api.Plan, s *api.Sea) { s.Bed[0], s.Bed[5] = 0x1p20, -0x1p20 }},
		{"all in the sky", func(_ *api.Plan, s *api.Sea) { s.Sky = most }},
		{"all in a cell and the sky", func(_ *api.Plan, s *api.Sea) { s.Water[5] = most - 2 }},
		{"all the tracer", func(_ *api.Plan, s *api.Sea) { s.Tracer[5] = most }},
		{"speeds", func(_ *api.Plan, s *api.Sea) { s.Speed[0], s.Speed[11] = 1024, -1024 }},
		{"the last step", func(_ *api.Plan, s *api.Sea) { s.Step = 1 << 62 }},
	} {
		p, s := sound(g)
		x.make(&p, &s)
		byAll(t, x.what, pick, g, p, s, append(upTo(65)[1:], 64)...)
	}
}
