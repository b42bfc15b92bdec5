package work

import (
	"fmt"
	"slices"
	"testing"

	"tarn/api"
	"tarn/cube"
	"tarn/grid"
	"tarn/state"
	"tarn/step"
)

func made(t *testing.T, side int) *grid.Grid {
	t.Helper()
	g, errno := grid.New(side)
	if g == nil || errno != api.OK {
		t.Fatalf("grid.New(%d) is %v, %d", side, g, errno)
	}
	return g
}

// dry: a sea without water, its beds and speeds +0.
func dry(g *grid.Grid) api.Sea {
	return api.Sea{
		Bed:    make([]float64, g.Cells()),
		Water:  make([]int64, g.Cells()),
		Tracer: make([]int64, g.Cells()),
		Speed:  make([]float64, g.Edges()),
	}
}

// pond: each cell has the depth 1.
func pond(g *grid.Grid) api.Sea {
	s := dry(g)
	for cell := range s.Water {
		s.Water[cell] = g.Area(cell)
	}
	return s
}

// calm: the plan of the document's pond, of any side.
func calm(side int) api.Plan { return api.Plan{Side: side, Dt: 0.5, Gravity: 1} }

func total(list []int64) int64 { // of a sea that can be: at most 2^52
	sum := int64(0)
	for _, n := range list {
		sum += n
	}
	return sum
}

func below(n int64) bool { return n < 0 }

// upTo: the numbers from 0 up to ahead of n.
func upTo(n int) []int {
	list := make([]int, n)
	for k := range list {
		list[k] = k
	}
	return list
}

func opposite(order []int) []int {
	list := slices.Clone(order)
	slices.Reverse(list)
	return list
}

// behind: the sea behind a step by layer 21.
func behind(t *testing.T, what string, g *grid.Grid, p api.Plan, s api.Sea) api.Sea {
	t.Helper()
	want, errno := step.One(g, p, s)
	if errno != api.OK {
		t.Fatalf("%s: the step has error %d", what, errno)
	}
	return want
}

// byWorkers: the sea made by so many workers, held against that of layer 21.
func byWorkers(t *testing.T, what string, g *grid.Grid, p api.Plan, s api.Sea, want api.Sea, workers int) {
	t.Helper()
	next, errno := One(g, p, s, workers)
	if errno != api.OK || !state.Same(next, want) {
		t.Fatalf("%s: error %d; %d workers make by %v of\n%v\nthe sea\n%v, want\n%v", what, errno, workers, p, s, next, want)
	}
}

// byOrder: the sea made part by part, held against that of layer 21.
func byOrder(t *testing.T, what string, g *grid.Grid, p api.Plan, s api.Sea, want api.Sea, order []int) {
	t.Helper()
	next, errno := Scheduled(g, p, s, order)
	if errno != api.OK || !state.Same(next, want) {
		t.Fatalf("%s: error %d; the order %v makes by %v of\n%v\nthe sea\n%v, want\n%v", what, errno, order, p, s, next, want)
	}
}

// byAll: by each of these numbers of workers, and by as many parts in rising and falling order and in one that is picked; what
// all make is answered, with its promises of P3.
func byAll(t *testing.T, what string, pick *picker, g *grid.Grid, p api.Plan, s api.Sea, numbers ...int) api.Sea {
	t.Helper()
	want := behind(t, what, g, p, s)
	for _, n := range numbers {
		byWorkers(t, what, g, p, s, want, n)
		byOrder(t, what, g, p, s, want, upTo(n))
		byOrder(t, what, g, p, s, want, opposite(upTo(n)))
		byOrder(t, what, g, p, s, want, pick.order(n))
	}
	next, _ := One(g, p, s, numbers[0])
	if slices.ContainsFunc(next.Water, below) || slices.ContainsFunc(next.Tracer, below) || next.Sky < 0 {
		t.Fatalf("%s: less than nothing: %v", what, next)
	}
	if total(next.Water)+next.Sky != total(s.Water)+s.Sky || total(next.Tracer) != total(s.Tracer) {
		t.Fatalf("%s: not kept: of\n%v\n%v", what, s, next)
	}
	return next
}

// The chapter's first example.
func TestExampleWorkers(t *testing.T) {
	g, pick := made(t, 2), newPicker()
	p, s := calm(2), pond(g)
	s.Water[0] *= 2
	want := behind(t, "a hill", g, p, s)
	for _, n := range []int{1, 2, 3, 24, 64} {
		byWorkers(t, "a hill", g, p, s, want, n)
	}
	for _, n := range []int{0, 65} {
		if next, errno := One(g, p, s, n); errno != api.ErrArg || !state.Same(next, api.Sea{}) {
			t.Errorf("%d workers: %v, %d", n, next, errno)
		}
	}
	byAll(t, "a wild sea", pick, g, pick.plan(g, wild), pick.sea(g, wild), 1, 2, 3, 24, 64)
}

// The chapter's second example.
func TestExampleOrders(t *testing.T) {
	g := made(t, 2)
	p, s := calm(2), pond(g)
	s.Water[7] *= 3
	want := behind(t, "a hill", g, p, s)
	for _, order := range [][]int{{0}, {1, 0}, {2, 0, 1}} {
		byOrder(t, "a hill", g, p, s, want, order)
	}
	for _, order := range [][]int{nil, {}, {1}, {0, 0}, {0, 2}, upTo(65)} {
		if next, errno := Scheduled(g, p, s, order); errno != api.ErrArg || !state.Same(next, api.Sea{}) {
			t.Errorf("order %v: %v, %d", order, next, errno)
		}
	}
}

// P23.1 by numbers reckoned by hand, without layer 21: cell 0 lies twice as deep as the others, and each of the six parts has
// one cell, so that all that goes goes from part to part.
func TestHillByHand(t *testing.T) {
	g := made(t, 1)
	s := pond(g)
	s.Water[0] *= 2
	s.Tracer[0] = 1 << 20
	const (
		area = 1431655765
		u    = 0.35355339059327373 // 0.5 / 1.4142135623730951
		out  = 438353264           // u * 2 * 1.1547005383792517 * 0.5 * 2^30
		part = 160530              // out * 2^20 / (2 * area) is 160529.8: the first rounded down, then what fills up to 321059.6, 481589.5, 642119.3
	)
	want := api.Sea{
		Bed:    make([]float64, 6),
		Water:  []int64{2*area - 4*out, area + out, area, area + out, area + out, area + out},
		Tracer: []int64{1<<20 - 4*part + 1, part - 1, 0, part, part, part},
		Speed:  []float64{u, u, u, u, 0, 0, 0, 0, 0, 0, 0, 0},
		Step:   1,
	}
	for n := 1; n <= 64; n++ {
		byWorkers(t, "by hand", g, calm(1), s, want, n)
		byOrder(t, "by hand", g, calm(1), s, want, opposite(upTo(n)))
	}
}

// P23.1 by hand: a cell that would give far more than it has gives all, then rains and then rivers go over the whole net.
func TestBurstByHand(t *testing.T) {
	g := made(t, 1)
	everything := int64(most)
	for _, x := range []struct {
		what          string
		rains         []api.Rain
		rivers        bool
		water, tracer []int64
		sky           int64
	}{
		{"neither", nil, false, []int64{0, 250, 0, 250, 250, 250}, []int64{0, 25, 0, 25, 25, 25}, 400},
		{"more than the sky has, and up again", []api.Rain{{Cell: 2, Amount: everything, To: 1}, {Cell: 1, Amount: -50, To: 1}}, false, []int64{0, 200, 400, 250, 250, 250}, []int64{0, 25, 0, 25, 25, 25}, 50},
		{"more than the cell has, and down again", []api.Rain{{Cell: 1, Amount: -everything, To: 1}, {Cell: 5, Amount: 600, To: 1}}, false, []int64{0, 0, 0, 250, 250, 850}, []int64{0, 25, 0, 25, 25, 25}, 50},
		{"rivers", nil, true, []int64{0, 188, 0, 188, 250, 374}, []int64{0, 19, 0, 19, 25, 37}, 400},
		{"rivers behind a rain", []api.Rain{{Cell: 1, Amount: 402, To: 1}}, true, []int64{0, 488, 0, 188, 250, 474}, []int64{0, 19, 0, 19, 25, 37}, 0},
		{"rivers behind a rain out of its time", []api.Rain{{Cell: 1, Amount: -50, From: 1, To: 2}}, true, []int64{0, 188, 0, 188, 250, 374}, []int64{0, 19, 0, 19, 25, 37}, 400},
	} {
		p, s := api.Plan{Side: 1, Dt: 1024, Rains: x.rains, Rivers: x.rivers}, dry(g)
		s.Bed[5], s.Water[0], s.Tracer[0], s.Sky = -1, 1000, 100, 400
		for e := range 4 {
			s.Speed[e] = 1024
		}
		want := api.Sea{Bed: s.Bed, Water: x.water, Tracer: x.tracer, Speed: s.Speed, Sky: x.sky, Step: 1}
		for n := 1; n <= 64; n++ {
			byWorkers(t, x.what, g, p, s, want, n)
			byOrder(t, x.what, g, p, s, want, opposite(upTo(n)))
		}
	}
}

// DOC.md's first example: a pond is the same behind every step but for its Step, which ends at the greatest one.
func TestPondRests(t *testing.T) {
	for _, side := range []int{1, 2, 4} {
		g := made(t, side)
		for _, step := range []int{0, 1, 1<<62 - 1, 1 << 62} {
			for _, n := range []int{1, 2, 7, 64} {
				s := pond(g)
				s.Step = step
				want := state.Copy(s)
				want.Step = min(step+1, 1<<62)
				byWorkers(t, "a pond", g, calm(side), s, want, n)
				byOrder(t, "a pond", g, calm(side), s, want, opposite(upTo(n)))
			}
		}
	}
}

// P23.1: every number of workers, each kind of sea.
func TestEveryNumber(t *testing.T) {
	pick := newPicker()
	for _, side := range []int{1, 2, 3, 5} {
		g := made(t, side)
		for kind := range kinds {
			p, s := pick.plan(g, kind), pick.sea(g, kind)
			byAll(t, fmt.Sprint("side ", side, ", kind ", kind), pick, g, p, s, append(upTo(65)[1:], 64)...)
		}
	}
}

// P23.1: many seas by many plans.
func TestManySeas(t *testing.T) {
	pick := newPicker()
	for _, x := range []struct{ side, times int }{{1, 120}, {2, 80}, {3, 40}, {6, 6}} {
		g := made(t, x.side)
		for kind := range kinds {
			for k := range x.times {
				what := fmt.Sprint("side ", x.side, ", kind ", kind, ", sea ", k)
				byAll(t, what, pick, g, pick.plan(g, kind), pick.sea(g, kind), 1+pick.below(64), 1+pick.below(8), 1)
			}
		}
	}
}

// P23.1: the greatest net, and others on which parts end in the midst of rows.
func TestGreatNets(t *testing.T) {
	pick := newPicker()
	for _, side := range []int{7, 13, 32} {
		g := made(t, side)
		for kind := range kinds {
			what := fmt.Sprint("side ", side, ", kind ", kind)
			byAll(t, what, pick, g, pick.plan(g, kind), pick.sea(g, kind), 1+pick.below(63), 64)
		}
	}
}

// orders: all there are of so many parts.
func orders(parts int) [][]int {
	if parts == 0 {
		return [][]int{nil}
	}
	var out [][]int
	for _, list := range orders(parts - 1) {
		for k := range parts {
			out = append(out, slices.Insert(slices.Clone(list), k, parts-1))
		}
	}
	return out
}

// P23.1: all orders of up to six parts.
func TestAllOrders(t *testing.T) {
	pick := newPicker()
	for _, side := range []int{1, 2} {
		g := made(t, side)
		for _, kind := range []int{gentle, thin} {
			p, s := pick.plan(g, kind), pick.sea(g, kind)
			want := behind(t, "orders", g, p, s)
			for parts := 1; parts <= 6; parts++ {
				for _, order := range orders(parts) {
					byOrder(t, "orders", g, p, s, want, order)
				}
			}
		}
	}
}

// P23.1: one high cell in each place of a net whose parts have one cell each, those at the corners of the cube among them;
// what goes out of it comes into the cells over its sides.
func TestRoundCorners(t *testing.T) {
	pick := newPicker()
	for side := 1; side <= 3; side++ {
		g := made(t, side)
		for cell := range g.Cells() {
			for limiter := range 4 {
				p, s := calm(side), pond(g)
				p.Limiter, s.Water[cell], s.Tracer[cell] = limiter, 2*g.Area(cell), g.Area(cell)
				next := byAll(t, fmt.Sprint("side ", side, ", cell ", cell), pick, g, p, s, g.Cells(), 64, 5)
				for over := range 4 {
					beside, _ := cube.Beside(side, cell, over)
					if next.Water[beside] <= s.Water[beside] || next.Tracer[beside] <= 0 {
						t.Fatalf("side %d: nothing has come from cell %d into cell %d", side, cell, beside)
					}
				}
			}
		}
	}
}

// P23.1: each limiter, no and the greatest Gravity and Drag, the least and the greatest Dt, speeds at both ends, both ends of
// Step.
func TestEnds(t *testing.T) {
	pick := newPicker()
	g := made(t, 2)
	for limiter := range 4 {
		for k := range 32 {
			p := api.Plan{Side: 2, Dt: []float64{1024, least}[k/16], Gravity: float64(k % 2 * 1024), Drag: float64(k / 2 % 2 * 1024), Limiter: limiter, Rivers: k/8%2 > 0}
			for kind := range kinds {
				s := pick.sea(g, kind)
				s.Step = k % 2 << 62
				for e := range s.Speed {
					s.Speed[e] = float64(1024 - 2048*(k/4%2))
				}
				next := byAll(t, fmt.Sprint("row ", k, ", kind ", kind, ", limiter ", limiter), pick, g, p, s, 1+pick.below(64))
				if next.Step != min(s.Step+1, 1<<62) {
					t.Fatalf("Step %d becomes %d", s.Step, next.Step)
				}
			}
		}
	}
}

// P23.1: the plan's limiter is the one that is taken: each makes another sea.
func TestLimitersDiffer(t *testing.T) {
	g, pick := made(t, 4), newPicker()
	s := pick.sea(g, gentle)
	p := api.Plan{Side: 4, Dt: 0.1, Gravity: 1}
	var seas []api.Sea
	for p.Limiter = range 4 {
		next := byAll(t, "a limiter", pick, g, p, s, 3, 64)
		for k, other := range seas {
			if state.Same(next, other) {
				t.Errorf("limiters %d and %d make one sea", k, p.Limiter)
			}
		}
		seas = append(seas, next)
	}
}

// P23.1: many steps one behind the other, each by another number of workers, each of the others from the same sea.
func TestManySteps(t *testing.T) {
	pick := newPicker()
	for _, side := range []int{1, 2, 4} {
		g := made(t, side)
		for kind := range kinds {
			p, s := pick.plan(g, kind), pick.sea(g, kind)
			s.Step = 0
			for k := range 30 {
				s = byAll(t, fmt.Sprint("side ", side, ", kind ", kind, ", step ", k), pick, g, p, s, 1+(7*k+kind)%64)
			}
			if s.Step != 30 {
				t.Errorf("side %d, kind %d: Step %d", side, kind, s.Step)
			}
		}
	}
}

// P23.1: a tracer that lies where no water is stays, and goes with water that comes.
func TestTracerWithoutWater(t *testing.T) {
	g, pick := made(t, 1), newPicker()
	s, p := dry(g), api.Plan{Side: 1, Dt: 1024}
	s.Tracer[0], s.Speed[0], s.Speed[4] = 100, 1024, 1024
	next := byAll(t, "dry", pick, g, p, s, 6, 64)
	if !slices.Equal(next.Tracer, s.Tracer) || !slices.Equal(next.Speed, make([]float64, 12)) {
		t.Errorf("the tracer of a dry cell: %v", next)
	}
	s.Tracer[1], s.Water[0] = 50, 10
	next = byAll(t, "wet", pick, g, p, s, 6, 64)
	if !slices.Equal(next.Water, []int64{0, 10, 0, 0, 0, 0}) || !slices.Equal(next.Tracer, []int64{0, 150, 0, 0, 0, 0}) {
		t.Errorf("water comes to the tracer: %v", next)
	}
}

// P23.1: rains, down and up, at both ends of their time and of Step, in the order of the list.
func TestRains(t *testing.T) {
	g, pick := made(t, 2), newPicker()
	for _, at := range []int{0, 1, 5, 1<<62 - 1, 1 << 62} {
		for _, rains := range [][]api.Rain{
			{{Cell: 0, Amount: most, From: at, To: at + 1}, {Cell: 23, Amount: 1, From: 0, To: last}},
			{{Cell: 23, Amount: -most, From: 0, To: last}, {Cell: 0, Amount: most, From: at, To: at + 1}},
			{{Cell: 3, Amount: 7, From: at, To: at}, {Cell: 4, Amount: 7, From: at + 1, To: last}, {Cell: 5, Amount: 7, From: 0, To: at}},
			slices.Repeat([]api.Rain{{Cell: 7, Amount: 3, From: at, To: last}, {Cell: 7, Amount: -2, From: at, To: last}}, 512),
		} {
			for _, rivers := range []bool{false, true} {
				p, s := calm(2), pick.sea(g, thin)
				p.Rains, p.Rivers, s.Step, s.Sky = rains, rivers, at, 20
				byAll(t, fmt.Sprint("rains at ", at), pick, g, p, s, 1, 24, 64)
			}
		}
	}
}

// P23.1: seas whose cells all give more than they have: behind the step each has only what has come, but for what is lost in
// rounding down.
func TestAllGiveTooMuch(t *testing.T) {
	pick := newPicker()
	for _, side := range []int{1, 2, 3} {
		g := made(t, side)
		for k := range 20 {
			p, s := api.Plan{Side: side, Dt: 1024, Limiter: k % 4}, dry(g)
			for cell := range s.Water {
				s.Water[cell], s.Tracer[cell] = int64(1+pick.below(1000)), int64(pick.below(1000))
			}
			for _, e := range outOfEach(g) {
				cell, over := e[0], e[1]
				n, sign := g.Around(cell, over)
				s.Speed[n] = float64(sign) * one(pick, 1024.0, 512, 1000)
			}
			flow, errno := step.Flow(g, p, s)
			if errno != api.OK {
				t.Fatalf("side %d: error %d", side, errno)
			}
			for cell, has := range s.Water {
				if left := has - gone(g, flow.Water, cell); left < 0 || left > 3 {
					t.Fatalf("side %d: of %d in cell %d %d are left", side, has, cell, left)
				}
			}
			byAll(t, fmt.Sprint("side ", side, ", sea ", k), pick, g, p, s, 1, 3, g.Cells(), 64)
		}
	}
}

// outOfEach: of each cell one of its sides, no two of which are one edge.
func outOfEach(g *grid.Grid) [][2]int {
	var out [][2]int
	taken := make([]bool, g.Edges())
	for cell := range g.Cells() {
		for over := range 4 {
			if e, _ := g.Around(cell, over); !taken[e] {
				taken[e] = true
				out = append(out, [2]int{cell, over})
				break
			}
		}
	}
	return out
}

// gone: what flows take out of a cell.
func gone(g *grid.Grid, flows []int64, cell int) int64 {
	sum := int64(0)
	for over := range 4 {
		e, sign := g.Around(cell, over)
		sum += max(0, int64(sign)*flows[e])
	}
	return sum
}
