package check

import (
	"fmt"
	"math"
	"slices"
	"testing"

	"tarn/api"
)

// fault of a plan or a sea of side 1.
type fault struct {
	what  string
	errno api.Errno
	make  func(p *api.Plan, s *api.Sea)
}

// planFaults: in the order in which they are told.
func planFaults() []fault {
	var out []fault
	add := func(what string, errno api.Errno, make func(p *api.Plan)) {
		out = append(out, fault{what, errno, func(p *api.Plan, _ *api.Sea) { make(p) }})
	}
	for _, side := range []int{0, -1, 33, first, first + 1, 1 << 32, 1<<32 + 1, last} {
		add(fmt.Sprint("side ", side), api.ErrSide, func(p *api.Plan) { p.Side = side })
	}
	for _, x := range []float64{0, minusZero, -least, -1, math.Nextafter(1024, inf), inf, -inf, nan} {
		add(fmt.Sprint("Dt ", x), api.ErrPlan, func(p *api.Plan) { p.Dt = x })
	}
	for _, x := range []float64{minusZero, -least, math.Nextafter(1024, inf), 1025, inf, -inf, nan} {
		add(fmt.Sprint("Gravity ", x), api.ErrPlan, func(p *api.Plan) { p.Gravity = x })
		add(fmt.Sprint("Drag ", x), api.ErrPlan, func(p *api.Plan) { p.Drag = x })
	}
	for _, k := range []int{-1, 4, first, last} {
		add(fmt.Sprint("Limiter ", k), api.ErrPlan, func(p *api.Plan) { p.Limiter = k })
	}
	add("too many rains", api.ErrRain, func(p *api.Plan) { p.Rains = make([]api.Rain, 1025) })
	for _, r := range []api.Rain{{Cell: -1}, {Cell: 6}, {Cell: last}, {Amount: most + 1}, {Amount: -most - 1}, {From: -1}, {From: 3, To: 2}, {To: -1}} {
		add(fmt.Sprint("rain ", r), api.ErrRain, func(p *api.Plan) { p.Rains = []api.Rain{{}, r} })
	}
	return out
}

// seaFaults: in the order in which they are told.
func seaFaults() []fault {
	var out []fault
	add := func(what string, errno api.Errno, make func(s *api.Sea)) {
		out = append(out, fault{what, errno, func(_ *api.Plan, s *api.Sea) { make(s) }})
	}
	add("no lists", api.ErrSize, func(s *api.Sea) { s.Bed, s.Water, s.Tracer, s.Speed = nil, nil, nil, nil })
	add("no beds", api.ErrSize, func(s *api.Sea) { s.Bed = nil })
	add("a bed too many", api.ErrSize, func(s *api.Sea) { s.Bed = append(s.Bed, 0) })
	add("a water too few", api.ErrSize, func(s *api.Sea) { s.Water = s.Water[:5] })
	add("no tracers", api.ErrSize, func(s *api.Sea) { s.Tracer = nil })
	add("a speed too few", api.ErrSize, func(s *api.Sea) { s.Speed = s.Speed[:11] })
	add("a speed for each cell", api.ErrSize, func(s *api.Sea) { s.Speed = s.Speed[:6] })
	for _, x := range []float64{minusZero, math.Nextafter(0x1p20, inf), math.Nextafter(-0x1p20, -inf), inf, nan} {
		add(fmt.Sprint("bed ", x), api.ErrBed, func(s *api.Sea) { s.Bed[5] = x })
	}
	for _, n := range []int64{-1, first, most + 1, last} {
		add(fmt.Sprint("sky ", n), api.ErrSky, func(s *api.Sea) { s.Sky = n })
	}
	for _, n := range []int64{-1, first, most - 1, last} { // the sky has 2
		add(fmt.Sprint("water ", n), api.ErrWater, func(s *api.Sea) { s.Water[5] = n })
	}
	for _, n := range []int64{-1, first, most + 1, last} {
		add(fmt.Sprint("tracer ", n), api.ErrTracer, func(s *api.Sea) { s.Tracer[5] = n })
	}
	for _, x := range []float64{minusZero, math.Nextafter(1024, inf), -1025, inf, -inf, nan} {
		add(fmt.Sprint("speed ", x), api.ErrSpeed, func(s *api.Sea) { s.Speed[11] = x })
	}
	for _, n := range []int{-1, first, 1<<62 + 1, last} {
		add(fmt.Sprint("Step ", n), api.ErrArg, func(s *api.Sea) { s.Step = n })
	}
	return out
}

// sound: a plan and a sea at rest that can be, of side 1.
func sound() (api.Plan, api.Sea) {
	p, s := planOf(1), empty(1)
	p.Rains, s.Sky, s.Tracer[0] = []api.Rain{{Cell: 5, Amount: 1, To: 1}}, 2, 5
	return p, s
}

func refused(t *testing.T, what string, p api.Plan, s api.Sea, want api.Errno) {
	t.Helper()
	if r, errno := Report(p, s); errno != want || !sameReports(r, api.Report{}) {
		t.Errorf("%s: %+v, %d, want %d", what, r, errno, want)
	}
}

// Every fault of a plan and of a sea, alone and with every later one beside it; beside an error there is no report.
func TestFaults(t *testing.T) {
	p, s := sound()
	if r, errno := Report(p, s); errno != api.OK || !sameReports(r, api.Report{Water: 2, Tracer: 5}) {
		t.Fatalf("no fault: %+v, %d", r, errno)
	}
	faults := append(planFaults(), seaFaults()...)
	for k, x := range faults {
		for _, later := range faults[k:] { // the fault itself is the first of them
			p, s := sound()
			later.make(&p, &s)
			x.make(&p, &s) // behind the later one, which may ask for places that it takes away
			refused(t, x.what+" with "+later.what, p, s, x.errno)
		}
	}
	refused(t, "nothing at all", api.Plan{}, api.Sea{}, api.ErrSide)
	refused(t, "a side alone", api.Plan{Side: 1}, api.Sea{}, api.ErrPlan)
	refused(t, "no sea", planOf(1), api.Sea{}, api.ErrSize)
}

// The sea is held against the plan's side.
func TestOtherSides(t *testing.T) {
	for side := 1; side <= 32; side++ {
		refused(t, fmt.Sprint("a sea of another side than ", side), planOf(side), empty(side%32+1), api.ErrSize)
		refused(t, fmt.Sprint("no sea of side ", side), planOf(side), api.Sea{}, api.ErrSize)
	}
	refused(t, "a sea of side 33", planOf(33), empty(33), api.ErrSide)
	p := planOf(2)
	p.Rains = []api.Rain{{Cell: 23}} // which side 1 hasn't
	refused(t, "a plan of side 2", p, empty(1), api.ErrSize)
	p.Rains[0].Cell = 24
	refused(t, "a rain beside side 2", p, empty(1), api.ErrRain)
}

// A sea that can't be isn't at rest, whatever is wrong with it; the plan's faults aren't asked.
func TestRestOfFaults(t *testing.T) {
	for _, x := range seaFaults() {
		p, s := sound()
		if !Rest(1, s) {
			t.Fatal("the sound sea isn't at rest")
		}
		x.make(&p, &s)
		if Rest(1, s) || Rest(2, s) || Rest(0, s) {
			t.Errorf("%s is at rest", x.what)
		}
	}
}

// Faults in the midst of lists, which but for them would have sums that can be.
func TestRestOfHiddenFaults(t *testing.T) {
	for _, x := range []struct {
		what string
		make func(s *api.Sea)
	}{
		{"waters that cancel", func(s *api.Sea) { s.Water[0], s.Water[2] = -7, 7 }},
		{"waters that wrap round", func(s *api.Sea) { copy(s.Water, []int64{last, last, 2}) }},
		{"tracers that cancel", func(s *api.Sea) { s.Tracer[0], s.Tracer[2] = -7, 7 }},
		{"tracers that wrap round", func(s *api.Sea) { copy(s.Tracer, []int64{last, last, 2}) }},
		{"a dry sea with a high shore", func(s *api.Sea) { s.Bed[4] = 0x1p21 }},
		{"a sky that cancels", func(s *api.Sea) { s.Water[1], s.Sky = 7, -7 }},
		{"water and sky", func(s *api.Sea) { s.Bed[0], s.Water[0], s.Sky = -0x1p20, area, most }},
	} {
		s := empty(1)
		x.make(&s)
		if Rest(1, s) {
			t.Errorf("%s: at rest", x.what)
		}
		if r, errno := Report(planOf(1), s); errno == api.OK || !sameReports(r, api.Report{}) {
			t.Errorf("%s: %+v, %d", x.what, r, errno)
		}
	}
}

// What stands just inside the limits is taken.
func TestJustInside(t *testing.T) {
	for _, x := range []struct {
		what string
		make func(p *api.Plan, s *api.Sea)
		want api.Report
	}{
		{"the greatest numbers", func(p *api.Plan, _ *api.Sea) { p.Dt, p.Gravity, p.Drag = 1024, 1024, 1024 }, api.Report{Water: 2, Tracer: 5}},
		{"so many rains", func(p *api.Plan, _ *api.Sea) { p.Rains = slices.Repeat(p.Rains, 1024) }, api.Report{Water: 2, Tracer: 5}},
		{"beds", func(_ *api.Plan, s *api.Sea) { s.Bed[0], s.Bed[5] = 0x1p20, -0x1p20 }, api.Report{Water: 2, Tracer: 5}},
		{"all in the sky", func(_ *api.Plan, s *api.Sea) { s.Sky = most }, api.Report{Water: most, Tracer: 5}},
		{"all the tracer", func(_ *api.Plan, s *api.Sea) { s.Tracer[4] = most - 5 }, api.Report{Water: 2, Tracer: most}},
		{"speeds", func(_ *api.Plan, s *api.Sea) { s.Speed[0], s.Speed[11] = 1024, -1024 }, api.Report{Water: 2, Tracer: 5, Fastest: 1024}},
		{"the last step", func(_ *api.Plan, s *api.Sea) { s.Step = 1 << 62 }, api.Report{Water: 2, Tracer: 5}},
	} {
		p, s := sound()
		x.make(&p, &s)
		if r, errno := Report(p, s); errno != api.OK || !sameReports(r, x.want) {
			t.Errorf("%s: %+v, %d, want %+v", x.what, r, errno, x.want)
		}
		if got := Rest(1, s); got != (x.want.Fastest == 0) {
			t.Errorf("%s: at rest: %v", x.what, got)
		}
	}
}
