package check

import (
	"fmt"
	"math"
	"testing"

	"tarn/api"
	"tarn/state"
)

// isReport: of a sea of side 1, by hand.
func isReport(t *testing.T, what string, s api.Sea, want api.Report) {
	t.Helper()
	if r := reported(t, what, 1, s); !sameReports(r, want) {
		t.Errorf("%s: %+v, want %+v", what, r, want)
	}
}

// P26.1, the chapter's example.
func TestReportExamples(t *testing.T) {
	s := empty(1)
	isReport(t, "nothing", s, api.Report{})
	s.Water[3], s.Sky = area, 5
	isReport(t, "water and sky", s, api.Report{Water: 1431655770, Wet: 1, Deepest: 1, Energy: area})
	s.Speed[4], s.Speed[9] = -2, 1
	isReport(t, "speeds", s, api.Report{Water: 1431655770, Wet: 1, Deepest: 1, Fastest: 2, Energy: area})
}

// P26.1: by hand, each number where it stands at an end.
func TestReportsByHand(t *testing.T) {
	s := empty(1)
	s.Bed, s.Step = []float64{0x1p20, -0x1p20, least, -least, 1, -1}, 1<<62
	isReport(t, "beds and Step alone", s, api.Report{})
	s = empty(1)
	s.Sky = most
	isReport(t, "all in the sky", s, api.Report{Water: most})
	s = empty(1)
	s.Water[5] = most
	deepest := 3*0x1p20 + 3*0x1p-12 // area is a third of 2^32 - 1, and what lies behind that is less than half of a last bit
	isReport(t, "all in a cell", s, api.Report{Water: most, Wet: 1, Deepest: deepest, Energy: 0x1p52 * deepest})
	s = empty(1)
	s.Water[0], s.Sky, s.Tracer[1], s.Tracer[5] = 1, most-1, 1, most-1
	isReport(t, "all but a quantum in the sky, and all the tracer", s, api.Report{Water: most, Tracer: most, Wet: 1, Deepest: 6.984919311242392e-10, Energy: 6.984919311242392e-10})
	s = empty(1)
	s.Water = []int64{area, area, area, area, area, area}
	s.Tracer = []int64{1, 2, 4, 8, 16, 32}
	isReport(t, "a pond", s, api.Report{Water: 6 * area, Tracer: 63, Wet: 6, Deepest: 1, Energy: 6 * area})
	s.Water = []int64{0, area, 2 * area, 3 * area, 0, 1}
	s.Sky = 7
	isReport(t, "steps", s, api.Report{Water: 6*area + 8, Tracer: 63, Wet: 4, Deepest: 3, Energy: 14 * area})
}

// P26.1: Fastest of each speed alone, on each edge, and beside lesser ones of both signs.
func TestFastest(t *testing.T) {
	for _, x := range []float64{0, least, 0x1p-1022, 1, math.Nextafter(1, 2), 5.5, math.Nextafter(1024, 0), 1024} {
		for edge := range 12 {
			for _, sign := range []float64{1, -1} {
				if x == 0 && sign < 0 {
					continue // no speed is -0
				}
				s := empty(1)
				s.Speed[edge] = sign * x
				isReport(t, fmt.Sprint("speed ", s.Speed[edge]), s, api.Report{Fastest: x})
				if x < 1 {
					continue
				}
				s.Speed[(edge+1)%12], s.Speed[(edge+5)%12] = math.Nextafter(x, 0), -math.Nextafter(x, 0)
				isReport(t, fmt.Sprint("speed ", s.Speed[edge], " and lesser ones"), s, api.Report{Fastest: x})
			}
		}
	}
}

// P26.1: the deepest cell isn't the one with the most water, where the net's areas are unlike.
func TestDeepest(t *testing.T) {
	for _, side := range []int{3, 4, 7, 32} {
		g := netOf(t, side)
		narrow, broad := 0, 0
		for cell := range g.Cells() {
			if g.Area(cell) < g.Area(narrow) {
				narrow = cell
			}
			if g.Area(cell) > g.Area(broad) {
				broad = cell
			}
		}
		s := empty(side)
		s.Water[narrow], s.Water[broad] = g.Area(narrow)+1, g.Area(narrow)+2
		if r := reported(t, "unlike areas", side, s); r.Deepest != 1+1/float64(g.Area(narrow)) {
			t.Errorf("side %d: %+v", side, r)
		}
		s.Water[narrow], s.Water[broad] = g.Area(narrow), g.Area(broad)+g.Area(broad)/2
		if r := reported(t, "unlike areas", side, s); r.Deepest < 1.49 || r.Deepest > 1.5 {
			t.Errorf("side %d: %+v", side, r)
		}
	}
	for cell := range 6 { // whichever it is
		s := empty(1)
		s.Water[cell], s.Water[(cell+1)%6] = 2*area, area
		isReport(t, fmt.Sprint("cell ", cell), s, api.Report{Water: 3 * area, Wet: 2, Deepest: 2, Energy: 5 * area})
	}
}

// P26.1: the terms are added up exactly. Beside one of 9000000 * area, where floats are 2 apart, a term of just below or
// just above 1 would be lost, or counted twice, if the sum were rounded in between.
func TestEnergyIsExact(t *testing.T) {
	for _, x := range []struct {
		water int64
		more  float64
	}{{37837, 4}, {37838, 6}, {0, 0}, {1, 0}, {26755, 2}, {26000, 2}} {
		for cell := range 6 {
			s := empty(1)
			for k := range s.Water {
				s.Water[k] = x.water
			}
			s.Water[cell] = 3000 * area
			if r := reported(t, "a great term", 1, s); r.Energy != 9000000*area+x.more {
				t.Errorf("cell %d beside waters of %d: %v", cell, x.water, r.Energy)
			}
		}
	}
}

// P26.1: seas of all kinds, against the model.
func TestReportsOfAllKinds(t *testing.T) {
	pick := newPicker()
	for _, side := range []int{1, 2, 3, 4, 5, 9, 32} {
		g := netOf(t, side)
		for kind := range kinds {
			for k := range max(1, 200/(side*side)) {
				reported(t, fmt.Sprint("kind ", kind, ", sea ", k), side, pick.sea(g, kind))
			}
		}
		reported(t, "a lake", side, pick.lake(t, side, true))
		reported(t, "nothing", side, empty(side))
	}
}

// P26.1: of all sides.
func TestReportsOfAllSides(t *testing.T) {
	pick := newPicker()
	for side := 1; side <= 32; side++ {
		g := netOf(t, side)
		reported(t, "a gentle sea", side, pick.sea(g, gentle))
		if r := reported(t, "nothing", side, empty(side)); !sameReports(r, api.Report{}) {
			t.Errorf("side %d: of nothing: %+v", side, r)
		}
		s := empty(side)
		for cell := range s.Water {
			s.Water[cell] = g.Area(cell)
		}
		sum := total(s.Water).Int64()
		if r := reported(t, "a pond", side, s); !sameReports(r, api.Report{Water: sum, Wet: 6 * side * side, Deepest: 1, Energy: float64(sum)}) {
			t.Errorf("side %d: of a pond: %+v", side, r)
		}
	}
}

// P26.1: nothing of the plan shows in the report, but its side.
func TestReportOfPlans(t *testing.T) {
	s := newPicker().sea(netOf(t, 1), gentle)
	want := reported(t, "a gentle sea", 1, s)
	for _, p := range []api.Plan{
		{Side: 1, Dt: least},
		{Side: 1, Dt: 1024, Gravity: 1024, Drag: 1024, Limiter: api.Leer, Rivers: true},
		{Side: 1, Dt: 1, Rains: []api.Rain{{Cell: 5, Amount: most, To: last}, {Cell: 0, Amount: -most, From: last, To: last}}},
		{Side: 1, Dt: 1, Rains: make([]api.Rain, 1024)},
	} {
		if r, errno := Report(p, s); errno != api.OK || !sameReports(r, want) {
			t.Errorf("%v: %+v, %d, want %+v", p.Dt, r, errno, want)
		}
	}
}

// P26.2: of a sea turned, by each of the turns.
func TestReportsOfTurnedSeas(t *testing.T) {
	pick := newPicker()
	for _, side := range []int{1, 2, 3, 4, 5, 6} {
		g := netOf(t, side)
		for kind := range kinds {
			s := pick.sea(g, kind)
			want := reported(t, "a sea", side, s)
			for turn := range 24 {
				u, errno := state.Turned(side, s, turn)
				if errno != api.OK {
					t.Fatalf("side %d, turn %d: %d", side, turn, errno)
				}
				if r := reported(t, "turned", side, u); !sameReports(r, want) {
					t.Errorf("side %d, kind %d, turn %d: %+v, want %+v", side, kind, turn, r, want)
				}
			}
		}
	}
	s := pick.sea(netOf(t, 32), gentle)
	want := reported(t, "a great sea", 32, s)
	for turn := range 24 {
		u, _ := state.Turned(32, s, turn)
		if r, errno := Report(planOf(32), u); errno != api.OK || !sameReports(r, want) {
			t.Errorf("side 32, turn %d: %+v, %d, want %+v", turn, r, errno, want)
		}
	}
}
