package flux

import (
	"math"
	"slices"
	"sync"
	"testing"

	"tarn/api"
	"tarn/cube"
	"tarn/grid"
	"tarn/recon"
)

const (
	least    = math.SmallestNonzeroFloat64
	greatest = math.MaxFloat64
	quantum  = 0x1p-30 // as dt: makes a quantum of 1
	most     = 1 << 52
)

var (
	inf       = math.Inf(1)
	minusZero = math.Copysign(0, -1)
)

func made(t *testing.T, side int) *grid.Grid {
	t.Helper()
	g, err := grid.New(side)
	if g == nil || err != api.OK {
		t.Fatalf("grid.New(%d) is %v, %d", side, g, err)
	}
	return g
}

func kinds() []int { return []int{api.Plain, api.Minmod, api.Superbee, api.Leer} }

// wild: limiters that there are not.
func wild() []int {
	return []int{math.MinInt, -1 << 32, -1<<32 + 1, -256, -2, -1, 4, 5, 255, 256, 257, 1 << 32, 1<<32 + 1, math.MaxInt}
}

func nans() []float64 {
	var out []float64
	for _, b := range []uint64{0x7ff0000000000001, 0x7ff8000000000000, api.QuietNaN, 0x7fffffffffffffff} {
		out = append(out, math.Float64frombits(b), math.Float64frombits(b|1<<63))
	}
	return out
}

// above: floats above 0, from one end to the other.
func above() []float64 {
	return []float64{least, 0x1p-1022, 0x1p-600, 0x1p-52, quantum, 0.3, 0.5, 1, 1.5, math.Nextafter(2, 1), 1024, 0x1p52, 0x1p600, greatest, inf}
}

// all: those, their opposites, noughts and NaNs.
func all() []float64 {
	out := append(nans(), 0, minusZero)
	for _, x := range above() {
		out = append(out, x, -x)
	}
	return out
}

// picker: numbers by a rule of its own, the same ones every time.
type picker uint64

func newPicker() *picker {
	p := picker(0x9e3779b97f4a7c15)
	return &p
}

func (p *picker) next() uint64 {
	s := uint64(*p)
	s ^= s << 13
	s ^= s >> 7
	s ^= s << 17
	*p = picker(s)
	return s
}

func pick[T any](p *picker, from []T) T { return from[p.next()>>11%uint64(len(from))] }

// float: from -1 up to 1, with all bits of its fraction.
func (p *picker) float() float64 { return float64(int64(p.next())) / 0x1p63 }

// scaled: a float times a power of 2 of at most that magnitude.
func (p *picker) scaled(power int) float64 {
	return math.Ldexp(p.float(), int(p.next()>>20%uint64(2*power+1))-power)
}

// pond: beds 0, depths 1, speeds 1.
func pond(g *grid.Grid) api.Sea {
	s := api.Sea{
		Bed:    make([]float64, g.Cells()),
		Water:  make([]int64, g.Cells()),
		Tracer: make([]int64, g.Cells()),
		Speed:  slices.Repeat([]float64{1}, g.Edges()),
	}
	for cell := range s.Water {
		s.Water[cell] = g.Area(cell)
	}
	return s
}

// sea that fits g: ordinary numbers, among them such that no sea can have.
func (p *picker) sea(g *grid.Grid) api.Sea {
	s := pond(g)
	for cell := range s.Bed {
		s.Bed[cell], s.Tracer[cell] = p.scaled(3), int64(p.next())
		s.Water[cell] = int64(p.next() >> 20 % uint64(5*g.Area(cell)))
		if p.next()>>20%16 == 0 {
			s.Bed[cell] = pick(p, all())
		}
		if p.next()>>20%16 == 0 {
			s.Water[cell] = pick(p, []int64{math.MinInt64, -most, -1, 0, 1, most, math.MaxInt64})
		}
	}
	for e := range s.Speed {
		s.Speed[e] = p.scaled(8)
		if p.next()>>20%4 == 0 {
			s.Speed[e] = pick(p, all())
		}
	}
	s.Sky, s.Step = int64(p.next()), int(p.next())
	return s
}

// plan with all parts but the limiter wild.
func (p *picker) plan(limiter int) api.Plan {
	dt := p.scaled(20)
	if p.next()>>20%4 == 0 {
		dt = pick(p, all())
	}
	return api.Plan{
		Side:    int(p.next()),
		Dt:      dt,
		Gravity: pick(p, all()),
		Drag:    pick(p, all()),
		Limiter: limiter,
		Rivers:  p.next()>>20%2 == 0,
		Rains:   []api.Rain{{Cell: int(p.next()), Amount: int64(p.next()), From: int(p.next()), To: int(p.next())}},
	}
}

func answered(t *testing.T, g *grid.Grid, p api.Plan, s api.Sea) []int64 {
	t.Helper()
	l, err := All(g, p, s)
	if err != api.OK || len(l) != g.Edges() {
		t.Fatalf("of the net of side %d: %d numbers, error %d", g.Side(), len(l), err)
	}
	return l
}

// The chapter's examples.
func TestExamples(t *testing.T) {
	for _, x := range []struct {
		u, depth, length, dt float64
		want                 int64
	}{
		{1, 1, 1, quantum, 1},
		{1, 1.5, 1, quantum, 2},
		{1, 2.5, 1, quantum, 2},
		{-1, 2.5, 1, quantum, -2},
		{1024, 1024, 1024, 1024, most},
		{-1024, 1024, 1024, 1024, -most},
		{inf, 1, 1, 1, most},
		{inf, 0, 1, 1, 0},
		{minusZero, 1, 1, 1, 0},
	} {
		if n := Quanta(x.u, x.depth, x.length, x.dt); n != x.want {
			t.Errorf("%v: %d", x, n)
		}
	}
	for _, side := range []int{1, 2, 5} {
		g := made(t, side)
		s := pond(g)
		clear(s.Speed)
		for e, n := range answered(t, g, api.Plan{Dt: 0.5}, s) {
			if n != 0 {
				t.Errorf("side %d: nothing moves, but %d go over %d", side, n, e)
			}
		}
	}
}

// P13.1: halves to the even one, and the floats beside them.
func TestHalves(t *testing.T) {
	for _, low := range []int64{0, 1, 2, 3, 4, 5, 1000, 1001, 1<<31 - 1, 1 << 31, 1<<50 - 1, 1 << 50, 1<<51 - 1} {
		half := float64(low) + 0.5
		even := low + low%2
		for _, x := range []struct {
			depth float64
			want  int64
		}{
			{half, even},
			{math.Nextafter(half, 0), low},
			{math.Nextafter(half, inf), low + 1},
		} {
			for place := range 3 {
				f := [3]float64{1, 1, 1}
				f[place] = x.depth
				if n := Quanta(f[0], f[1], f[2], quantum); n != x.want {
					t.Errorf("%v: %d, want %d", f, n, x.want)
				}
				if n := Quanta(-f[0], f[1], f[2], quantum); n != -x.want {
					t.Errorf("%v back: %d, want %d", f, n, -x.want)
				}
			}
			if n := Quanta(1, 1, 1, x.depth*quantum); n != x.want {
				t.Errorf("%v as dt: %d, want %d", x.depth, n, x.want)
			}
		}
	}
}

// P13.1: at MaxWater and beyond it, both ways.
func TestBeyondMaxWater(t *testing.T) {
	for _, x := range []struct {
		depth float64
		want  int64
	}{
		{most - 2, most - 2},
		{most - 1.5, most - 2},
		{most - 1, most - 1},
		{most - 0.5, most},
		{most, most},
		{most + 1, most},
		{most + 2, most},
		{0x1p53, most},
		{0x1p62, most},
		{math.Nextafter(0x1p63, 0), most},
		{0x1p63, most},
		{math.Nextafter(0x1p63, inf), most},
		{0x1p64, most},
		{1e300, most},
		{greatest, most},
		{inf, most},
	} {
		if n := Quanta(1, x.depth, 1, quantum); n != x.want {
			t.Errorf("%v: %d, want %d", x.depth, n, x.want)
		}
		for place := range 4 {
			f := [4]float64{1, x.depth, 1, quantum}
			f[place] = -f[place]
			if n := Quanta(f[0], f[1], f[2], f[3]); n != -x.want {
				t.Errorf("%v: %d, want %d", f, n, -x.want)
			}
		}
	}
}

// P13.1: the order of the products shows where one of them is too great or too small for a float.
func TestOrderOfProducts(t *testing.T) {
	for _, x := range []struct {
		u, depth, length, dt float64
		want                 int64
	}{
		{0x1p600, 0x1p600, 0x1p-600, 0x1p-600, most}, // u * depth is the infinity
		{0x1p600, 0x1p-600, 0x1p600, 0x1p-600, 1 << 30},
		{0x1p600, 0x1p-600, 0x1p-600, 0x1p600, 1 << 30},
		{-0x1p600, 0x1p600, 0x1p-600, 0x1p-600, -most},
		{0x1p-600, 0x1p-600, 0x1p600, 0x1p600, 0}, // u * depth is +0
		{0x1p-600, 0x1p600, 0x1p-600, 0x1p600, 1 << 30},
		{0x1p-600, 0x1p600, 0x1p600, 0x1p-600, 1 << 30},
		{1, 0x1p600, 0x1p600, 0x1p-1022, most}, // that times length is
		{1, 0x1p-600, 0x1p-600, 0x1p1022, 0},
		{0x1p-500, 0x1p600, 0x1p600, 0x1p-700, 1 << 30}, // depth * length isn't reckoned
		{0x1p500, 0x1p-600, 0x1p-600, 0x1p700, 1 << 30},
		{0x1p500, 0x1p-500, 0x1p600, 0x1p600, most},
		{0x1p-500, 0x1p-500, 0x1p600, 0x1p600, most}, // length * dt isn't: 2^200
		{0x1p-500, 0x1p-500, 0x1p500, 0x1p500, 1 << 30},
		{0x1p-1000, 0x1p-22, 1, 0x1p1022, 1 << 30}, // dt * Unit isn't, nor u * Unit
		{0x1p1022, 0x1p-1000, 0x1p-22, 1, 1 << 30},
		{0x1p-22, 0x1p1022, 0x1p-1000, 1, 1 << 30},
		{0x1p-22, 0x1p-1000, 0x1p1022, 1, 1 << 30},
		{least, 0.5, 0x1p1000, 0x1p74, 0}, // the half of the least float is +0, of 1.5 of it the double
		{least, 1.5, 0x1p1000, 0x1p64, 2 << 20},
		{least, 0x1p1000, 1.5, 0x1p64, 3 << 19},
		{0x1p600, 0x1p600, 0, 1, 0}, // the infinity times a nought
		{0x1p600, 0x1p600, 1, 0, 0},
		{0x1p600, 0, 0x1p600, 0x1p600, 0},
	} {
		if n := Quanta(x.u, x.depth, x.length, x.dt); n != x.want {
			t.Errorf("%v: %d, want %d", x, n, x.want)
		}
	}
}

// P13.1: infinities, noughts of both signs and NaNs at each place.
func TestInfinitiesNoughtsAndNaNs(t *testing.T) {
	for place := range 4 {
		set := func(x float64) [4]float64 {
			f := [4]float64{1, 1, 1, 1}
			f[place] = x
			return f
		}
		asked := func(f [4]float64) int64 { return Quanta(f[0], f[1], f[2], f[3]) }
		for _, x := range append(nans(), 0, minusZero) {
			if n := asked(set(x)); n != 0 {
				t.Errorf("%v: %d", set(x), n)
			}
		}
		for other := range 4 {
			f := set(inf)
			if other == place {
				continue
			}
			for _, x := range append(nans(), 0, minusZero) {
				f[other] = x
				for _, sign := range []float64{1, -1} {
					f[place] = sign * inf
					if n := asked(f); n != 0 {
						t.Errorf("%v: %d", f, n)
					}
				}
			}
			f[other] = least
			if n := asked(f); n != -most { // f[place] is below 0
				t.Errorf("%v: %d", f, n)
			}
		}
		if n := asked(set(inf)); n != most {
			t.Errorf("%v: %d", set(inf), n)
		}
		if n := asked(set(-inf)); n != -most {
			t.Errorf("%v: %d", set(-inf), n)
		}
	}
}

// P13.1, P2: against the model, at all fours of some floats.
func TestQuantaAgainstTheModelAtTheEdges(t *testing.T) {
	list := []float64{math.NaN(), 0, minusZero, least, -0x1p-1022, 0x1p-600, quantum, -0.3, 1, math.Nextafter(2, 1), -1024, 0x1p52, -0x1p600, greatest, inf, -inf}
	for _, u := range list {
		for _, depth := range list {
			for _, length := range list {
				for _, dt := range list {
					if n, want := Quanta(u, depth, length, dt), model(u, depth, length, dt); n != want {
						t.Fatalf("%v, %v, %v, %v: %d, want %d", u, depth, length, dt, n, want)
					}
				}
			}
		}
	}
}

// P13.1, P2: against the model, at products so great that each rounding shows, and at those of every size.
func TestQuantaAgainstTheModel(t *testing.T) {
	p := newPicker()
	shown := 0
	for range 40000 {
		u, depth, length, dt := 2+p.float(), 2+p.float(), 2+p.float(), math.Ldexp(p.float(), 20)
		want := model(u, depth, length, dt)
		if n := Quanta(u, depth, length, dt); n != want {
			t.Fatalf("%v, %v, %v, %v: %d, want %d", u, depth, length, dt, n, want)
		}
		if want != onceRounded(u, depth, length, dt) {
			shown++
		}
	}
	if shown < 2000 {
		t.Errorf("roundings showed %d times: too few to tell anything", shown)
	}
	for range 40000 {
		u, depth, length, dt := math.Float64frombits(p.next()), p.scaled(1000), p.scaled(1000), p.scaled(1000)
		if n, want := Quanta(u, depth, length, dt), model(u, depth, length, dt); n != want {
			t.Fatalf("%v, %v, %v, %v: %d, want %d", u, depth, length, dt, n, want)
		}
	}
}

// P13.2: of a nought as u or depth nothing comes; else it goes the way of u.
func TestNothingFromNothing(t *testing.T) {
	for _, x := range all() {
		for _, length := range all() {
			for _, dt := range all() {
				for _, nought := range []float64{0, minusZero} {
					if Quanta(nought, x, length, dt) != 0 || Quanta(x, nought, length, dt) != 0 {
						t.Fatalf("of %v with %v, %v, %v: something", nought, x, length, dt)
					}
				}
			}
		}
	}
	gone := 0
	for _, u := range above() {
		for _, depth := range above() {
			for _, length := range above() {
				for _, dt := range above() {
					there, back := Quanta(u, depth, length, dt), Quanta(-u, depth, length, dt)
					if there < 0 || back > 0 {
						t.Fatalf("of %v, %v, %v, %v: %d and %d", u, depth, length, dt, there, back)
					}
					if there > 0 {
						gone++
					}
				}
			}
		}
	}
	if gone < 1000 {
		t.Errorf("only %d times something went", gone)
	}
}

// P13.3.
func TestOpposites(t *testing.T) {
	p := newPicker()
	for _, u := range all() {
		for _, depth := range all() {
			for range 20 {
				length, dt := pick(p, all()), pick(p, all())
				if n, back := Quanta(u, depth, length, dt), Quanta(-u, depth, length, dt); n != -back {
					t.Fatalf("of %v, %v, %v, %v: %d and %d", u, depth, length, dt, n, back)
				}
			}
		}
	}
	for range 20000 {
		u, depth, length, dt := p.scaled(8), p.scaled(8), p.scaled(8), p.scaled(24)
		if n, back := Quanta(u, depth, length, dt), Quanta(-u, depth, length, dt); n != -back {
			t.Fatalf("of %v, %v, %v, %v: %d and %d", u, depth, length, dt, n, back)
		}
	}
}

// P13.1: some edges by hand, so that the list doesn't hang on Quanta and Depth alone.
func TestAllByHand(t *testing.T) {
	g := made(t, 1)
	s := pond(g)
	for cell := range s.Water {
		s.Water[cell] *= int64(cell + 1)
	}
	clear(s.Speed)
	s.Speed[0], s.Speed[2], s.Speed[4], s.Speed[5], s.Speed[7], s.Speed[11] = 1, -1, -0.5, inf, minusZero, math.NaN()
	// a length is 1.1547005383792517, and 2^30 of it 1239850262.2...
	want := []int64{1239850262, 0, -4959401049, 0, -1859775393, most, 0, 0, 0, 0, 0, 0}
	if l := answered(t, g, api.Plan{Dt: 1}, s); !slices.Equal(l, want) {
		t.Errorf("by Plain: %v, want %v", l, want)
	}
	for e, n := range want {
		want[e] = -n
	}
	if l := answered(t, g, api.Plan{Dt: -1}, s); !slices.Equal(l, want) {
		t.Errorf("back in time: %v, want %v", l, want)
	}
	s = pond(g)
	clear(s.Speed)
	s.Water[3], s.Water[0], s.Water[1], s.Speed[0] = 4*g.Area(3), 2*g.Area(0), g.Area(1), 0.25
	for k, want := range []int64{619925131, 464943848, 309962566, 413283421} { // depths 2, 1.5, 1 and 4/3
		if l := answered(t, g, api.Plan{Dt: 1, Limiter: k}, s); l[0] != want {
			t.Errorf("by %d: %d, want %d", k, l[0], want)
		}
	}
	s.Bed[1] = 1.5
	if l := answered(t, g, api.Plan{Dt: 1}, s); l[0] != 154981283 { // 0.5 stands above the bed of cell 1
		t.Errorf("over a bed: %d", l[0])
	}
	s.Bed[1] = 2
	if l := answered(t, g, api.Plan{Dt: 1}, s); l[0] != 0 {
		t.Errorf("over a bed as high as the level: %d", l[0])
	}
}

// P13.1: each edge in order, of its own speed, depth and length; of any numbers, by any limiter.
func TestAllEdges(t *testing.T) {
	p := newPicker()
	for _, side := range []int{1, 1, 1, 2, 2, 3, 4, 5, 8, api.MaxSide} {
		g := made(t, side)
		gone := 0
		for _, k := range append(kinds(), wild()...) {
			plan, s := p.plan(k), p.sea(g)
			for e, n := range answered(t, g, plan, s) {
				u := s.Speed[e]
				if want := model(u, recon.Depth(g, k, s, e, u), g.Length(e), plan.Dt); n != want {
					t.Fatalf("side %d by %d: over %d %d, want %d", side, k, e, n, want)
				}
				if n != 0 {
					gone++
				}
			}
		}
		if gone == 0 {
			t.Errorf("side %d: nothing went", side)
		}
	}
}

// P13.1: a limiter that there is not is no fault: it makes no slopes.
func TestLimitersThatThereAreNot(t *testing.T) {
	g, p := made(t, 2), newPicker()
	s := p.sea(g)
	want := answered(t, g, api.Plan{Dt: 0.5, Limiter: api.Plain}, s)
	if l := answered(t, g, api.Plan{Dt: 0.5, Limiter: api.Superbee}, s); slices.Equal(l, want) {
		t.Error("slopes don't show")
	}
	for _, k := range wild() {
		if l := answered(t, g, api.Plan{Dt: 0.5, Limiter: k}, s); !slices.Equal(l, want) {
			t.Errorf("by %d: %v, want %v", k, l, want)
		}
	}
}

// P13.1: of speeds that are noughts and NaNs nothing goes, whatever the rest is.
func TestStandingWater(t *testing.T) {
	g, p := made(t, 2), newPicker()
	for _, u := range append(nans(), 0, minusZero) {
		for _, k := range kinds() {
			for _, dt := range all() {
				s := p.sea(g)
				s.Speed = slices.Repeat([]float64{u}, g.Edges())
				if l := answered(t, g, api.Plan{Dt: dt, Limiter: k}, s); !slices.Equal(l, make([]int64, g.Edges())) {
					t.Fatalf("at %v, dt %v: %v", u, dt, l)
				}
			}
		}
	}
}

// P13.1: times of a step that no plan can have.
func TestTimesOfAStep(t *testing.T) {
	g := made(t, 2)
	s := pond(g)
	for _, x := range []struct {
		dt   float64
		want int64
	}{{inf, most}, {-inf, -most}, {greatest, most}, {0, 0}, {minusZero, 0}, {least, 0}, {math.NaN(), 0}} {
		for e, n := range answered(t, g, api.Plan{Dt: x.dt}, s) {
			if n != x.want {
				t.Fatalf("dt %v: over %d %d, want %d", x.dt, e, n, x.want)
			}
		}
	}
}

// P13.1: of the plan the limiter and the time alone are looked at, of the sea no tracer, no sky and no step.
func TestWhatIsNotLookedAt(t *testing.T) {
	g, p := made(t, 2), newPicker()
	for _, k := range kinds() {
		plan, s := api.Plan{Dt: 0.25, Limiter: k}, p.sea(g)
		want := answered(t, g, plan, s)
		for range 20 {
			other := p.plan(k)
			other.Dt = plan.Dt
			s.Sky, s.Step = int64(p.next()), int(p.next())
			for cell := range s.Tracer {
				s.Tracer[cell] = int64(p.next())
			}
			if l := answered(t, g, other, s); !slices.Equal(l, want) {
				t.Fatalf("by the plan %v: %v, want %v", other, l, want)
			}
		}
	}
}

// others: lists that are nil, too short and too long, the spare room of which would do.
func others[T any](list []T) [][]T {
	long := append(slices.Clone(list), list[0])
	return [][]T{nil, {}, list[:1], list[:len(list)-1], list[1:], long, append(long, list...)}
}

// P13.1: each of the four lists that doesn't fit, and the sea of another net.
func TestListsThatDoNotFit(t *testing.T) {
	for _, side := range []int{1, 2} {
		g := made(t, side)
		refused := func(s api.Sea, what string) {
			for _, k := range append(kinds(), -1, 4) {
				for _, dt := range []float64{0.5, 0, math.NaN()} {
					if l, err := All(g, api.Plan{Side: side, Dt: dt, Limiter: k}, s); err != api.ErrArg || len(l) != 0 {
						t.Errorf("side %d, %s: %v, %d", side, what, l, err)
					}
				}
			}
		}
		for k := range others(pond(g).Bed) {
			for list, what := range []string{"beds", "waters", "tracers", "speeds"} {
				s := pond(g)
				switch list {
				case 0:
					s.Bed = others(s.Bed)[k]
				case 1:
					s.Water = others(s.Water)[k]
				case 2:
					s.Tracer = others(s.Tracer)[k]
				case 3:
					s.Speed = others(s.Speed)[k]
				}
				refused(s, what)
			}
		}
		refused(api.Sea{}, "no lists")
		refused(pond(made(t, side+1)), "the pond of another net")
		s := pond(g)
		s.Speed = s.Speed[:g.Cells()]
		refused(s, "as many speeds as cells")
		answered(t, g, api.Plan{}, pond(g))
	}
}

// P13.1: a nil net comes ahead of all else.
func TestNilNet(t *testing.T) {
	for _, s := range []api.Sea{{}, {Bed: []float64{}, Water: []int64{}, Tracer: []int64{}, Speed: []float64{}}, pond(made(t, 1))} {
		for _, plan := range []api.Plan{{}, {Side: 1, Dt: 0.5}, {Dt: math.NaN(), Limiter: -1}} {
			if l, err := All(nil, plan, s); err != api.ErrNil || len(l) != 0 {
				t.Errorf("%v of %v: %v, %d", plan, s, l, err)
			}
		}
	}
}

// P13.4: what goes over an edge stays as it is while all but its speed and its four cells changes.
func TestFourCellsAlone(t *testing.T) {
	p := newPicker()
	for _, side := range []int{1, 2, 3, 4} {
		g := made(t, side)
		for e := range g.Edges() {
			x, _ := g.Edge(e)
			behindLeft, behindRight, _ := g.Behind(e)
			for _, k := range kinds() {
				s, r := p.sea(g), p.sea(g)
				for _, cell := range []int{behindLeft, x.Left, x.Right, behindRight} {
					r.Bed[cell], r.Water[cell] = s.Bed[cell], s.Water[cell]
				}
				for _, u := range []float64{0.3, -0.3, p.scaled(4)} {
					s.Speed[e], r.Speed[e] = u, u
					plan := api.Plan{Dt: 0.01, Limiter: k}
					if n, want := answered(t, g, plan, r)[e], answered(t, g, plan, s)[e]; n != want {
						t.Fatalf("side %d by %d: over %d %d and %d", side, k, e, want, n)
					}
				}
			}
		}
	}
}

// turned: the sea that a turn of the cube makes of a sea, and where each edge is then, with the sign of its way.
func turned(g *grid.Grid, turn int, s api.Sea) (api.Sea, []int, []int) {
	out := pond(g)
	for cell := range s.Bed {
		to, _ := cube.Turn(g.Side(), turn, cell)
		out.Bed[to], out.Water[to] = s.Bed[cell], s.Water[cell]
	}
	edges, signs := make([]int, g.Edges()), make([]int, g.Edges())
	for e, u := range s.Speed {
		x, _ := g.Edge(e)
		to, q := cube.Turn(g.Side(), turn, x.Left)
		edges[e], signs[e] = g.Around(to, (x.Side+q)%4)
		out.Speed[edges[e]] = u * float64(signs[e])
	}
	return out, edges, signs
}

// P13.4: so no face counts: with the cube turned as much goes over each edge.
func TestTurnsOfTheCube(t *testing.T) {
	p := newPicker()
	for _, side := range []int{1, 2, 3, 4} {
		g := made(t, side)
		for turn := range 24 {
			s := p.sea(g)
			r, edges, signs := turned(g, turn, s)
			for _, k := range kinds() {
				plan := api.Plan{Dt: 0.3, Limiter: k}
				here, there := answered(t, g, plan, s), answered(t, g, plan, r)
				for e, n := range here {
					if there[edges[e]] != n*int64(signs[e]) {
						t.Fatalf("side %d, turn %d by %d: over %d %d, turned %d", side, turn, k, e, n, there[edges[e]])
					}
				}
			}
		}
	}
}

// roomy: the list with spare room behind it that isn't empty.
func roomy[T any](list []T) []T { return append(slices.Clone(list), list...)[:len(list)] }

// whole: the bits of a list and of its spare room.
func whole(list []float64) []uint64 {
	var out []uint64
	for _, x := range list[:cap(list)] {
		out = append(out, math.Float64bits(x))
	}
	return out
}

// P13.5.
func TestWhatIsHandedInStays(t *testing.T) {
	g, p := made(t, 2), newPicker()
	plan, s := p.plan(api.Leer), p.sea(g)
	plan.Dt, plan.Rains = 0.25, roomy(plan.Rains)
	s.Bed, s.Water, s.Tracer, s.Speed = roomy(s.Bed), roomy(s.Water), roomy(s.Tracer), roomy(s.Speed)
	beds, speeds, rains := whole(s.Bed), whole(s.Speed), slices.Clone(plan.Rains[:cap(plan.Rains)])
	waters, tracers := slices.Clone(s.Water[:cap(s.Water)]), slices.Clone(s.Tracer[:cap(s.Tracer)])
	first := answered(t, g, plan, s)
	kept := slices.Clone(first)
	second := answered(t, g, plan, s)
	room := second[:cap(second)]
	for k := range room {
		room[k] = -7
	}
	if !slices.Equal(first, kept) {
		t.Error("a list that was answered has changed with a later one")
	}
	if !slices.Equal(whole(s.Bed), beds) || !slices.Equal(whole(s.Speed), speeds) || !slices.Equal(plan.Rains[:cap(plan.Rains)], rains) ||
		!slices.Equal(s.Water[:cap(s.Water)], waters) || !slices.Equal(s.Tracer[:cap(s.Tracer)], tracers) {
		t.Error("what was handed in has changed")
	}
	if third := answered(t, g, plan, s); !slices.Equal(third, kept) {
		t.Error("asked again the numbers are others")
	}
	for cell := range s.Water {
		s.Water[cell], s.Tracer[cell] = 1, 1
	}
	if !slices.Equal(first, kept) {
		t.Error("the answer hangs on what was handed in")
	}
}

// Calls at the same time, over the same net and sea, answer the same.
func TestCallsAtTheSameTime(t *testing.T) {
	g, p := made(t, 4), newPicker()
	s, plan := p.sea(g), api.Plan{Dt: 0.25, Limiter: api.Superbee}
	want := answered(t, g, plan, s)
	rows := make([][]int64, 8)
	var calls sync.WaitGroup
	for k := range rows {
		calls.Go(func() { rows[k], _ = All(g, plan, s) })
	}
	calls.Wait()
	for k, l := range rows {
		if !slices.Equal(l, want) {
			t.Errorf("call %d answered other numbers", k)
		}
	}
}
