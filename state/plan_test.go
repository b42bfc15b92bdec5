package state

import (
	"slices"
	"testing"

	"tarn/api"
)

func goodPlan() api.Plan { return api.Plan{Side: 2, Dt: 0.5, Gravity: 10, Drag: 1, Limiter: api.Leer} }

// planned: what Plan answers of the good plan, changed, and what the model does.
func planned(t *testing.T, what string, change func(p *api.Plan)) api.Errno {
	t.Helper()
	p := goodPlan()
	change(&p)
	e := Plan(p)
	if want := modelPlan(p); e != want {
		t.Errorf("%s: Plan is %d, by the model %d: side %d, Dt %x, Gravity %x, Drag %x, Limiter %d, %d rains", what, e, want, p.Side, p.Dt, p.Gravity, p.Drag, p.Limiter, len(p.Rains))
	}
	return e
}

// P20.1: each number at its edges.
func TestPlanByHand(t *testing.T) {
	for _, r := range []struct {
		what   string
		e      api.Errno
		change func(p *api.Plan)
	}{
		{"as it is", 0, func(p *api.Plan) {}},
		{"side 0", api.ErrSide, func(p *api.Plan) { p.Side = 0 }},
		{"side 1", 0, func(p *api.Plan) { p.Side = 1 }},
		{"side 32", 0, func(p *api.Plan) { p.Side = 32 }},
		{"side 33", api.ErrSide, func(p *api.Plan) { p.Side = 33 }},
		{"Dt 0", api.ErrPlan, func(p *api.Plan) { p.Dt = 0 }},
		{"Dt -0", api.ErrPlan, func(p *api.Plan) { p.Dt = minusZero }},
		{"Dt the least", 0, func(p *api.Plan) { p.Dt = least }},
		{"Dt below 0", api.ErrPlan, func(p *api.Plan) { p.Dt = -least }},
		{"Dt 1024", 0, func(p *api.Plan) { p.Dt = 1024 }},
		{"Dt above 1024", api.ErrPlan, func(p *api.Plan) { p.Dt = up(1024) }},
		{"Dt infinite", api.ErrPlan, func(p *api.Plan) { p.Dt = inf }},
		{"Dt -infinite", api.ErrPlan, func(p *api.Plan) { p.Dt = -inf }},
		{"Dt NaN", api.ErrPlan, func(p *api.Plan) { p.Dt = nan }},
		{"Gravity 0", 0, func(p *api.Plan) { p.Gravity = 0 }},
		{"Gravity -0", api.ErrPlan, func(p *api.Plan) { p.Gravity = minusZero }},
		{"Gravity the least", 0, func(p *api.Plan) { p.Gravity = least }},
		{"Gravity below 0", api.ErrPlan, func(p *api.Plan) { p.Gravity = -least }},
		{"Gravity 1024", 0, func(p *api.Plan) { p.Gravity = 1024 }},
		{"Gravity above 1024", api.ErrPlan, func(p *api.Plan) { p.Gravity = up(1024) }},
		{"Gravity NaN", api.ErrPlan, func(p *api.Plan) { p.Gravity = nan }},
		{"Drag 0", 0, func(p *api.Plan) { p.Drag = 0 }},
		{"Drag -0", api.ErrPlan, func(p *api.Plan) { p.Drag = minusZero }},
		{"Drag the least", 0, func(p *api.Plan) { p.Drag = least }},
		{"Drag below 0", api.ErrPlan, func(p *api.Plan) { p.Drag = -least }},
		{"Drag 1024", 0, func(p *api.Plan) { p.Drag = 1024 }},
		{"Drag above 1024", api.ErrPlan, func(p *api.Plan) { p.Drag = up(1024) }},
		{"Drag NaN", api.ErrPlan, func(p *api.Plan) { p.Drag = nan }},
		{"limiter -1", api.ErrPlan, func(p *api.Plan) { p.Limiter = -1 }},
		{"Plain", 0, func(p *api.Plan) { p.Limiter = api.Plain }},
		{"Minmod", 0, func(p *api.Plan) { p.Limiter = api.Minmod }},
		{"Superbee", 0, func(p *api.Plan) { p.Limiter = api.Superbee }},
		{"Leer", 0, func(p *api.Plan) { p.Limiter = api.Leer }},
		{"limiter 4", api.ErrPlan, func(p *api.Plan) { p.Limiter = 4 }},
		{"rivers", 0, func(p *api.Plan) { p.Rivers = true }},
		{"empty rains", 0, func(p *api.Plan) { p.Rains = []api.Rain{} }},
		{"MaxRains", 0, func(p *api.Plan) { p.Rains = make([]api.Rain, 1024) }},
		{"MaxRains, of more room", 0, func(p *api.Plan) { p.Rains = make([]api.Rain, 2048)[:1024] }},
		{"a rain more", api.ErrRain, func(p *api.Plan) { p.Rains = make([]api.Rain, 1025) }},
	} {
		if e := planned(t, r.what, r.change); e != r.e {
			t.Errorf("%s: %d, want %d", r.what, e, r.e)
		}
	}
}

// P20.1: each number may be any.
func TestPlansOfAllNumbers(t *testing.T) {
	for _, n := range ints() {
		planned(t, "side", func(p *api.Plan) { p.Side = n })
		planned(t, "limiter", func(p *api.Plan) { p.Limiter = n })
	}
	for side := range 34 {
		planned(t, "side", func(p *api.Plan) { p.Side = side })
	}
	for _, x := range floats() {
		planned(t, "Dt", func(p *api.Plan) { p.Dt = x })
		planned(t, "Gravity", func(p *api.Plan) { p.Gravity = x })
		planned(t, "Drag", func(p *api.Plan) { p.Drag = x })
		for _, y := range floats() {
			planned(t, "Dt and Gravity", func(p *api.Plan) { p.Dt, p.Gravity = x, y })
			planned(t, "Gravity and Drag", func(p *api.Plan) { p.Gravity, p.Drag = x, y })
		}
	}
}

// P20.1: a rain that can't be, first, in the midst and last, and one just beside it that can be.
func TestPlanOfRains(t *testing.T) {
	good := api.Rain{Cell: 23, Amount: -most, From: 0, To: 0}
	for _, n := range []int{1, 2, 5, 1024} {
		for _, k := range []int{0, n / 2, n - 1} {
			for _, r := range []struct {
				rain api.Rain
				e    api.Errno
			}{
				{good, 0},
				{api.Rain{Cell: 24}, api.ErrRain},
				{api.Rain{Cell: -1}, api.ErrRain},
				{api.Rain{Amount: most}, 0},
				{api.Rain{Amount: most + 1}, api.ErrRain},
				{api.Rain{Amount: -most - 1}, api.ErrRain},
				{api.Rain{Amount: first}, api.ErrRain},
				{api.Rain{Amount: last}, api.ErrRain},
				{api.Rain{From: -1, To: 3}, api.ErrRain},
				{api.Rain{From: 3, To: 3}, 0},
				{api.Rain{From: 3, To: 2}, api.ErrRain},
				{api.Rain{From: last, To: last}, 0},
			} {
				rains := slices.Repeat([]api.Rain{good}, n)
				rains[k] = r.rain
				if e := planned(t, "a rain", func(p *api.Plan) { p.Rains = rains }); e != r.e {
					t.Errorf("%v at %d of %d: %d, want %d", r.rain, k, n, e, r.e)
				}
			}
		}
	}
}

// P20.1: the rains' cells are those of the plan's own side.
func TestRainsOfEachSide(t *testing.T) {
	for side := 1; side <= 32; side++ {
		for cell, want := range map[int]api.Errno{6*side*side - 1: api.OK, 6 * side * side: api.ErrRain} {
			e := planned(t, "a cell", func(p *api.Plan) { p.Side, p.Rains = side, []api.Rain{{Cell: cell}} })
			if e != want {
				t.Errorf("side %d, a rain on cell %d: %d, want %d", side, cell, e, want)
			}
		}
	}
}

// P20.1: of two errors at once, and of three, the one that the chapter names first.
func TestPlansWithTwoErrors(t *testing.T) {
	type wrong struct {
		e  api.Errno
		do func(p *api.Plan)
	}
	var all []wrong
	for _, side := range []int{0, 33} {
		all = append(all, wrong{api.ErrSide, func(p *api.Plan) { p.Side = side }})
	}
	all = append(all,
		wrong{api.ErrPlan, func(p *api.Plan) { p.Dt = 0 }},
		wrong{api.ErrPlan, func(p *api.Plan) { p.Gravity = nan }},
		wrong{api.ErrPlan, func(p *api.Plan) { p.Drag = minusZero }},
		wrong{api.ErrPlan, func(p *api.Plan) { p.Limiter = 4 }},
		wrong{api.ErrRain, func(p *api.Plan) { p.Rains = []api.Rain{{Cell: -1}} }},
		wrong{api.ErrRain, func(p *api.Plan) { p.Rains = make([]api.Rain, 1025) }},
	)
	for i, a := range all {
		for j, b := range all[i:] {
			for k, c := range all[i+j:] {
				e := planned(t, "errors", func(p *api.Plan) { a.do(p); b.do(p); c.do(p) })
				if e != a.e {
					t.Errorf("errors %d, %d, %d: %d, want %d", i, i+j, i+j+k, e, a.e)
				}
			}
		}
	}
}
