package step

import (
	"fmt"
	"math"
	"slices"
	"testing"

	"tarn/api"
	"tarn/grid"
)

// refused: whether both calls answer this error, and nothing beside it.
func refused(t *testing.T, g *grid.Grid, p api.Plan, s api.Sea, want api.Errno, what any) {
	t.Helper()
	if next, errno := One(g, p, s); errno != want || !same(next, api.Sea{}) {
		t.Errorf("%v: One is %v, %d, want %d", what, next, errno, want)
	}
	if flow, errno := Flow(g, p, s); errno != want || len(flow.Water)+len(flow.Tracer) != 0 {
		t.Errorf("%v: Flow is %v, %d, want %d", what, flow, errno, want)
	}
}

// fault of a plan or a sea of side 1.
type fault struct {
	what  string
	errno api.Errno
	make  func(p *api.Plan, s *api.Sea)
}

// rains that can be.
func rains(n int) []api.Rain { return slices.Repeat([]api.Rain{{Cell: 5, Amount: 1, To: 1}}, n) }

func planFaults() []fault {
	var out []fault
	add := func(what string, errno api.Errno, make func(p *api.Plan)) {
		out = append(out, fault{what, errno, func(p *api.Plan, _ *api.Sea) { make(p) }})
	}
	for _, x := range []float64{0, minusZero, -least, -1, math.Nextafter(1024, inf), 1025, inf, -inf, nan, math.Float64frombits(api.QuietNaN)} {
		add(fmt.Sprint("Dt ", x), api.ErrPlan, func(p *api.Plan) { p.Dt = x })
	}
	for _, x := range []float64{minusZero, -least, -1, math.Nextafter(1024, inf), 1025, inf, -inf, nan} {
		add(fmt.Sprint("Gravity ", x), api.ErrPlan, func(p *api.Plan) { p.Gravity = x })
		add(fmt.Sprint("Drag ", x), api.ErrPlan, func(p *api.Plan) { p.Drag = x })
	}
	for _, k := range []int{-1, 4, first, last} {
		add(fmt.Sprint("Limiter ", k), api.ErrPlan, func(p *api.Plan) { p.Limiter = k })
	}
	add("too many rains", api.ErrRain, func(p *api.Plan) { p.Rains = rains(1025) })
	for _, r := range []api.Rain{{Cell: -1}, {Cell: 6}, {Cell: last}, {Amount: most + 1}, {Amount: -most - 1}, {Amount: first}, {From: -1}, {From: 3, To: 2}, {To: -1}} {
		add(fmt.Sprint("rain ", r), api.ErrRain, func(p *api.Plan) { p.Rains = append(rains(2), r) })
	}
	return out
}

// seaFaults: in the order in which they are told.
func seaFaults() []fault {
	var out []fault
	add := func(what string, errno api.Errno, make func(s *api.Sea)) {
		out = append(out, fault{what, errno, func(_ *api.Plan, s *api.Sea) { make(s) }})
	}
	add("no beds", api.ErrSize, func(s *api.Sea) { s.Bed = nil })
	add("a bed too many", api.ErrSize, func(s *api.Sea) { s.Bed = append(s.Bed, 0) })
	add("a water too few", api.ErrSize, func(s *api.Sea) { s.Water = s.Water[:5] })
	add("a tracer too many", api.ErrSize, func(s *api.Sea) { s.Tracer = append(s.Tracer, 0) })
	add("no tracers", api.ErrSize, func(s *api.Sea) { s.Tracer = nil })
	add("a speed too few", api.ErrSize, func(s *api.Sea) { s.Speed = s.Speed[:11] })
	add("a speed for each cell", api.ErrSize, func(s *api.Sea) { s.Speed = s.Speed[:6] })
	for _, x := range []float64{minusZero, math.Nextafter(0x1p20, inf), math.Nextafter(-0x1p20, -inf), inf, -inf, nan} {
		add(fmt.Sprint("bed ", x), api.ErrBed, func(s *api.Sea) { s.Bed[5] = x })
	}
	for _, n := range []int64{-1, first, most + 1, last} {
		add(fmt.Sprint("sky ", n), api.ErrSky, func(s *api.Sea) { s.Sky = n })
	}
	for _, n := range []int64{-1, first, most - 1, most + 1, last} { // the sky has 2
		add(fmt.Sprint("water ", n), api.ErrWater, func(s *api.Sea) { s.Water[5] = n })
	}
	for _, n := range []int64{-1, first, most + 1, last} {
		add(fmt.Sprint("tracer ", n), api.ErrTracer, func(s *api.Sea) { s.Tracer[5] = n })
	}
	for _, x := range []float64{minusZero, math.Nextafter(1024, inf), 1025, -1025, inf, -inf, nan} {
		add(fmt.Sprint("speed ", x), api.ErrSpeed, func(s *api.Sea) { s.Speed[11] = x })
	}
	for _, n := range []int{-1, first, 1<<62 + 1, last} {
		add(fmt.Sprint("Step ", n), api.ErrArg, func(s *api.Sea) { s.Step = n })
	}
	return out
}

// sound: a plan and a sea that can be, of side 1.
func sound(g *grid.Grid) (api.Plan, api.Sea) {
	p, s := calm(1), dry(g)
	p.Rains, s.Sky = rains(1), 2
	return p, s
}

// Every fault of a plan and of a sea, alone and with every later one beside it.
func TestFaults(t *testing.T) {
	g := made(t, 1)
	p, s := sound(g)
	stepped(t, "no fault", g, p, s)
	faults := append(planFaults(), seaFaults()...)
	for k, x := range faults {
		p, s := sound(g)
		x.make(&p, &s)
		refused(t, g, p, s, x.errno, x.what)
		for _, later := range faults[k+1:] {
			p, s := sound(g)
			later.make(&p, &s)
			x.make(&p, &s) // behind the later one, which may ask for places that it takes away
			refused(t, g, p, s, x.errno, x.what+" with "+later.what)
		}
	}
}

// ErrNil comes ahead of everything, ErrArg for the net's side ahead of everything else, also of a side that there isn't.
func TestFaultsOfNets(t *testing.T) {
	g, other := made(t, 1), made(t, 2)
	faults := append(planFaults(), seaFaults()...)
	faults = append(faults, fault{"no fault", api.OK, func(*api.Plan, *api.Sea) {}})
	for _, x := range faults {
		p, s := sound(g)
		x.make(&p, &s)
		refused(t, nil, p, s, api.ErrNil, "no net, "+x.what)
		refused(t, other, p, s, api.ErrArg, "another net, "+x.what)
		for _, side := range []int{first, -1, 0, 2, 31, 32, 33, 1 << 32, 1<<32 + 1, last} {
			p.Side = side
			refused(t, nil, p, s, api.ErrNil, fmt.Sprint("no net, side ", side, ", ", x.what))
			refused(t, g, p, s, api.ErrArg, fmt.Sprint("side ", side, ", ", x.what))
		}
	}
	refused(t, nil, api.Plan{}, api.Sea{}, api.ErrNil, "nothing at all")
	refused(t, g, api.Plan{}, api.Sea{}, api.ErrArg, "neither plan nor sea")
	refused(t, g, calm(1), api.Sea{}, api.ErrSize, "no sea")
	refused(t, g, calm(1), dry(other), api.ErrSize, "a sea of another side")
	refused(t, other, calm(2), dry(g), api.ErrSize, "a sea of another side")
	refused(t, other, calm(1), dry(other), api.ErrArg, "a plan of another side")
}

// What stands just inside the limits is taken.
func TestJustInside(t *testing.T) {
	g := made(t, 1)
	for _, x := range []struct {
		what string
		make func(p *api.Plan, s *api.Sea)
	}{
		{"the least Dt", func(p *api.Plan, _ *api.Sea) { p.Dt = least }},
		{"the greatest numbers", func(p *api.Plan, _ *api.Sea) { p.Dt, p.Gravity, p.Drag = 1024, 1024, 1024 }},
		{"no numbers", func(p *api.Plan, _ *api.Sea) { p.Gravity, p.Drag = 0, 0 }},
		{"the last limiter", func(p *api.Plan, _ *api.Sea) { p.Limiter = api.Leer }},
		{"so many rains", func(p *api.Plan, _ *api.Sea) { p.Rains = rains(1024) }},
		{"great rains", func(p *api.Plan, _ *api.Sea) {
			p.Rains = []api.Rain{{Cell: 0, Amount: most, To: last}, {Cell: 5, Amount: -most, From: last, To: last}}
		}},
		{"beds", func(_ *api.Plan, s *api.Sea) { s.Bed[0], s.Bed[5] = 0x1p20, -0x1p20 }},
		{"all in the sky", func(_ *api.Plan, s *api.Sea) { s.Sky = most }},
		{"all in a cell", func(_ *api.Plan, s *api.Sea) { s.Water[5], s.Sky = most, 0 }},
		{"all in a cell and the sky", func(_ *api.Plan, s *api.Sea) { s.Water[5] = most - 2 }},
		{"all the tracer", func(_ *api.Plan, s *api.Sea) { s.Tracer[5] = most }},
		{"speeds", func(_ *api.Plan, s *api.Sea) { s.Speed[0], s.Speed[11] = 1024, -1024 }},
		{"the last step", func(_ *api.Plan, s *api.Sea) { s.Step = 1 << 62 }},
	} {
		p, s := sound(g)
		x.make(&p, &s)
		stepped(t, x.what, g, p, s)
	}
}
