package river

import (
	"math"
	"slices"
	"sync"
	"testing"

	"tarn/api"
	"tarn/grid"
	"tarn/level"
	"tarn/mass"
	"tarn/share"
)

const (
	last  = math.MaxInt64
	first = math.MinInt64
	most  = 1 << 52
)

var (
	inf       = math.Inf(1)
	minusZero = math.Copysign(0, -1)
	nan       = math.NaN()
)

func made(t *testing.T, side int) *grid.Grid {
	t.Helper()
	g, err := grid.New(side)
	if g == nil || err != api.OK {
		t.Fatalf("grid.New(%d) is %v, %d", side, g, err)
	}
	return g
}

func nans() []float64 {
	var out []float64
	for _, b := range []uint64{0x7ff0000000000001, 0x7ff8000000000000, api.QuietNaN, 0x7fffffffffffffff} {
		out = append(out, math.Float64frombits(b), math.Float64frombits(b|1<<63))
	}
	return out
}

// ladder: floats from the least to the greatest; those of one rung are the same bed.
func ladder() [][]float64 {
	rungs := [][]float64{{-inf}, {-math.MaxFloat64}, {-api.MaxHeight}, {-1}, {-0x1p-1022}, {-math.SmallestNonzeroFloat64}, {0, minusZero}}
	for _, x := range []float64{math.SmallestNonzeroFloat64, 0x1p-1022, 0.1, math.Nextafter(0.1, 1), 1, api.MaxHeight, math.MaxFloat64, inf} {
		rungs = append(rungs, []float64{x})
	}
	return append(rungs, nans())
}

// picker: numbers by a rule of its own, the same ones every time.
type picker uint64

func newPicker() *picker {
	p := picker(0x9e3779b97f4a7c15)
	return &p
}

func (p *picker) next() uint64 {
	s := uint64(*p)
	s ^= s << 13
	s ^= s >> 7
	s ^= s << 17
	*p = picker(s)
	return s
}

// below: from 0 up to ahead of n.
func (p *picker) below(n int) int { return int(p.next() >> 11 % uint64(n)) }

// sized: from 0 on, of every size up to so many bits alike.
func (p *picker) sized(power int) int64 { return int64(p.next() >> (64 - power) >> p.below(power)) }

// beds of n cells: of so many heights, or, if of none, of all floats.
func (p *picker) beds(n int, heights int) []float64 {
	bed := make([]float64, n)
	rungs := ladder()
	for cell := range bed {
		switch {
		case heights > 0:
			bed[cell] = float64(p.below(heights))
		case p.below(4) == 0:
			bed[cell] = math.Float64frombits(p.next())
		default:
			rung := rungs[p.below(len(rungs))]
			bed[cell] = rung[p.below(len(rung))]
		}
	}
	return bed
}

// sea that can be over g, as to its water and tracer: of power 31 many of its cells are about as deep as Shallow.
func (p *picker) sea(g *grid.Grid, heights int, power int) api.Sea {
	s := flat(g)
	s.Bed = p.beds(g.Cells(), heights)
	for cell := range s.Water {
		s.Water[cell], s.Tracer[cell] = p.sized(power), p.sized(power)
		switch p.below(8) {
		case 0:
			s.Water[cell] = 0
		case 1:
			s.Tracer[cell] = 0
		case 2:
			s.Water[cell] = min(g.Area(cell)/2+int64(p.below(5))-2, 1<<power)
		}
	}
	return s
}

// flat: a dry sea with beds +0.
func flat(g *grid.Grid) api.Sea {
	return api.Sea{
		Bed:    make([]float64, g.Cells()),
		Water:  make([]int64, g.Cells()),
		Tracer: make([]int64, g.Cells()),
		Speed:  make([]float64, g.Edges()),
	}
}

func same(n int, x int64) []int64 { return slices.Repeat([]int64{x}, n) }

// set: n noughts, but for those that are named.
func set(n int, of map[int]int64) []int64 {
	l := make([]int64, n)
	for k, x := range of {
		l[k] = x
	}
	return l
}

func answered(t *testing.T, g *grid.Grid, s api.Sea) ([]int64, []int64) {
	t.Helper()
	water, tracer, err := Run(g, s)
	if err != api.OK || len(water) != g.Cells() || len(tracer) != g.Cells() {
		t.Fatalf("of the net of side %d: %d and %d numbers, error %d", g.Side(), len(water), len(tracer), err)
	}
	return water, tracer
}

func refused(t *testing.T, g *grid.Grid, s api.Sea, what string) {
	t.Helper()
	if water, tracer, err := Run(g, s); err != api.ErrArg || len(water) != 0 || len(tracer) != 0 {
		t.Errorf("%s: %v, %v, %d", what, water, tracer, err)
	}
}

// The chapter's examples.
func TestExamples(t *testing.T) {
	for _, x := range []struct {
		bed  []float64
		want []int
	}{
		{[]float64{1, 3, 2, 3}, []int{1, 3, 2, 0}},
		{[]float64{0, minusZero}, []int{0, 1}},
		{[]float64{nan, inf}, []int{0, 1}},
	} {
		if l := Order(x.bed); !slices.Equal(l, x.want) {
			t.Errorf("Order(%v): %v, want %v", x.bed, l, x.want)
		}
	}
	g := made(t, 1)
	s := flat(g)
	s.Bed = []float64{5, 4, 3, 2, 1, 0}
	if down := Down(g, s.Bed, 0); down != 5 {
		t.Errorf("Down of 0 is %d", down)
	}
	if down := Down(g, s.Bed, 5); down != -1 {
		t.Errorf("Down of 5 is %d", down)
	}
	s.Water[0], s.Tracer[0] = 100, 10
	water, tracer := answered(t, g, s)
	if !slices.Equal(water, []int64{75, 0, 0, 0, 0, 25}) || !slices.Equal(tracer, []int64{8, 0, 0, 0, 0, 2}) {
		t.Errorf("of 100 and 10: %v, %v", water, tracer)
	}
	s.Water[0] = 3
	water, tracer = answered(t, g, s)
	if !slices.Equal(water, s.Water) || !slices.Equal(tracer, s.Tracer) {
		t.Errorf("of 3 and 10: %v, %v", water, tracer)
	}
}

// P19.1: over the net of side 1, where 0 lies opposite to 2, 1 to 3, and 4 to 5.
func TestDownByHand(t *testing.T) {
	g := made(t, 1)
	for _, x := range []struct {
		what string
		bed  []float64
		want []int
	}{
		{"falling", []float64{5, 4, 3, 2, 1, 0}, []int{5, 5, 5, 5, -1, -1}},
		{"rising", []float64{0, 1, 2, 3, 4, 5}, []int{-1, 0, 1, 0, 0, 0}},
		{"flat", []float64{3, 3, 3, 3, 3, 3}, []int{-1, -1, -1, -1, -1, -1}},
		{"two least, the lesser number", []float64{1, 0, 1, 0, 1, 1}, []int{1, -1, 1, -1, 1, 1}},
		{"two least, over later sides", []float64{1, 1, 1, 0, 1, 0}, []int{3, 5, 3, -1, 3, -1}},
		{"four least", []float64{1, 0, 1, 0, 0, 0}, []int{1, -1, 1, -1, -1, -1}},
		{"the least, not the first that is less", []float64{9, 8, 7, 6, 5, 4}, []int{5, 5, 5, 5, -1, -1}},
		{"the one of its bed isn't less", []float64{1, 1, 2, 1, 1, 1}, []int{-1, -1, 1, -1, -1, -1}},
		{"opposite ones don't count", []float64{1, 2, 0, 2, 2, 2}, []int{-1, 2, -1, 2, 2, 2}},
		{"noughts of both signs are the same", []float64{0, minusZero, 0, minusZero, minusZero, minusZero}, []int{-1, -1, -1, -1, -1, -1}},
		{"-0 isn't the lesser of two least", []float64{1, 0, 1, minusZero, minusZero, 0}, []int{1, -1, 1, -1, -1, -1}},
		{"-0 ahead, too", []float64{1, minusZero, 1, 0, 0, minusZero}, []int{1, -1, 1, -1, -1, -1}},
		{"a NaN is above the infinity", []float64{nan, inf, nan, inf, nan, nan}, []int{1, -1, 1, -1, 1, 1}},
		{"NaNs are the same", nans()[:6], []int{-1, -1, -1, -1, -1, -1}},
		{"a NaN with the sign bit, too, is above all else", []float64{nans()[1], -inf, nans()[5], inf, 0, nans()[3]}, []int{1, -1, 1, 4, 1, 1}},
		{"infinities", []float64{inf, inf, -inf, inf, -inf, 0}, []int{4, 2, -1, 2, -1, 2}},
		{"the least of all below the next one", []float64{math.Nextafter(1, 2), 1, 1, 1, math.Nextafter(1, 0), 1}, []int{4, 4, 4, 4, -1, -1}},
		{"either side of nought", []float64{math.SmallestNonzeroFloat64, 0, -math.SmallestNonzeroFloat64, minusZero, 0, 0}, []int{1, 2, -1, 2, 2, 2}},
	} {
		for cell, want := range x.want {
			if down := Down(g, x.bed, cell); down != want {
				t.Errorf("%s: Down of %d is %d, want %d", x.what, cell, down, want)
			}
			if down := modelDown(1, x.bed, cell); down != want {
				t.Errorf("%s: by the model Down of %d is %d, want %d", x.what, cell, down, want)
			}
		}
	}
}

// P19.1: a nil net, cells just outside the net and far from it, lists too short and too long.
func TestDownOfWhatThereIsNot(t *testing.T) {
	for _, side := range []int{1, 2, api.MaxSide} {
		g := made(t, side)
		n := g.Cells()
		bed := make([]float64, n, 2*n)
		for cell := range bed {
			bed[cell] = float64(n - cell)
		}
		for _, cell := range []int{0, n - 1} {
			if down, want := Down(g, bed, cell), modelDown(side, bed, cell); down != want {
				t.Errorf("side %d: Down of %d is %d, want %d", side, cell, down, want)
			}
		}
		if Down(g, bed, 0) < 0 {
			t.Errorf("side %d: the first cell has no Down", side)
		}
		for _, cell := range []int{-1, -2, -n, n, n + 1, 2 * n, math.MinInt, math.MaxInt} {
			if down := Down(g, bed, cell); down != -1 {
				t.Errorf("side %d: Down of %d is %d", side, cell, down)
			}
		}
		for _, list := range [][]float64{nil, {}, bed[:1], bed[:n-1], bed[1:], bed[:n+1], bed[:2*n]} {
			for _, cell := range []int{-1, 0, 1, n - 2, n - 1, n} {
				if down := Down(g, list, cell); down != -1 {
					t.Errorf("side %d, %d beds: Down of %d is %d", side, len(list), cell, down)
				}
			}
		}
		for _, list := range [][]float64{nil, {}, bed} {
			for _, cell := range []int{-1, 0, n} {
				if down := Down(nil, list, cell); down != -1 {
					t.Errorf("no net, %d beds: Down of %d is %d", len(list), cell, down)
				}
			}
		}
	}
}

// P19.1, P19.3: each cell of some nets, with all beds out of four heights in it and in the four beside it.
func TestDownOfEachCell(t *testing.T) {
	heights := []float64{minusZero, 0, 1, nan}
	for _, side := range []int{1, 2, 3} {
		g := made(t, side)
		for cell := range g.Cells() {
			about := append(modelBeside(side, cell), cell)
			for code := range 1 << 10 {
				bed := slices.Repeat([]float64{-1}, g.Cells()) // lower than all, and of no matter
				for k, at := range about {
					bed[at] = heights[code>>(2*k)&3]
				}
				down, want := Down(g, bed, cell), modelDown(side, bed, cell)
				if down != want {
					t.Fatalf("side %d, cell %d among %v of %v: %d, want %d", side, cell, about, bed, down, want)
				}
			}
		}
	}
}

// P19.1: a bed of each rung is less than those of the rungs above, and the same as those of its own.
func TestBedsByTheirRungs(t *testing.T) {
	g := made(t, 1)
	rungs := ladder()
	for i, low := range rungs {
		for j, high := range rungs {
			for _, a := range low {
				for _, b := range high {
					down := Down(g, []float64{b, b, a, b, b, b}, 1)
					order := Order([]float64{a, b})
					if (down == 2) != (i < j) || (order[0] == 1) != (i < j) {
						t.Errorf("beds %x and %x: %d, %v", math.Float64bits(a), math.Float64bits(b), down, order)
					}
				}
			}
		}
	}
}

// P19.1, P19.3: against the model; from Down to Down the beds fall, till there is none.
func TestDownAgainstTheModel(t *testing.T) {
	p := newPicker()
	for _, side := range []int{1, 2, 3, 4, 7, api.MaxSide} {
		g := made(t, side)
		for _, heights := range []int{0, 1, 2, 3, 5, 100, 1 << 30} {
			bed := p.beds(g.Cells(), heights)
			for cell := range bed {
				down := Down(g, bed, cell)
				if want := modelDown(side, bed, cell); down != want {
					t.Fatalf("side %d: Down of %d is %d, want %d", side, cell, down, want)
				}
				downhill(t, g, bed, cell)
			}
		}
	}
}

// downhill: P19.3 of the way down from a cell.
func downhill(t *testing.T, g *grid.Grid, bed []float64, cell int) {
	t.Helper()
	seen := make(map[int]int)
	for cell >= 0 {
		seen[cell]++
		if seen[cell] > 1 {
			t.Fatalf("cell %d comes twice", cell)
		}
		down := Down(g, bed, cell)
		for _, next := range modelBeside(g.Side(), cell) {
			if down >= 0 && modelLess(bed[next], bed[down]) || down < 0 && modelLess(bed[next], bed[cell]) {
				t.Fatalf("beside cell %d the bed of %d is less than that of its Down, %d", cell, next, down)
			}
		}
		if down >= 0 && (!slices.Contains(modelBeside(g.Side(), cell), down) || !modelLess(bed[down], bed[cell])) {
			t.Fatalf("the Down of %d is %d, which isn't beside it or isn't lower", cell, down)
		}
		cell = down
	}
}

// P19.1: orders by hand, at the edges that the chapter names.
func TestOrderByHand(t *testing.T) {
	for _, x := range []struct {
		what string
		bed  []float64
		want []int
	}{
		{"no list", nil, nil},
		{"an empty list", []float64{}, nil},
		{"one", []float64{7}, []int{0}},
		{"one NaN", []float64{nan}, []int{0}},
		{"rising", []float64{1, 2, 3}, []int{2, 1, 0}},
		{"falling", []float64{3, 2, 1}, []int{0, 1, 2}},
		{"all the same", []float64{4, 4, 4, 4, 4}, []int{0, 1, 2, 3, 4}},
		{"the same between", []float64{1, 2, 1, 2, 1}, []int{1, 3, 0, 2, 4}},
		{"below 0", []float64{-1, -2, 0, -0.5}, []int{2, 3, 0, 1}},
		{"noughts of both signs", []float64{minusZero, 0, minusZero, 0}, []int{0, 1, 2, 3}},
		{"noughts among others", []float64{minusZero, -1, 0, 1}, []int{3, 0, 2, 1}},
		{"NaNs of unlike bits", nans(), []int{0, 1, 2, 3, 4, 5, 6, 7}},
		{"a NaN with the sign bit", []float64{-inf, nans()[1], inf, nans()[0]}, []int{1, 3, 2, 0}},
		{"infinities", []float64{-inf, inf, 0, inf, -inf}, []int{1, 3, 2, 0, 4}},
		{"next to each other", []float64{1, math.Nextafter(1, 2), math.Nextafter(1, 0)}, []int{1, 0, 2}},
		{"about nought", []float64{-math.SmallestNonzeroFloat64, minusZero, math.SmallestNonzeroFloat64, 0}, []int{2, 1, 3, 0}},
	} {
		if l := Order(x.bed); !slices.Equal(l, x.want) {
			t.Errorf("%s: Order(%v): %v, want %v", x.what, x.bed, l, x.want)
		}
		if l := modelOrder(x.bed); !slices.Equal(l, x.want) {
			t.Errorf("%s: by the model %v, want %v", x.what, l, x.want)
		}
	}
}

// P19.1, P19.4: all lists of up to six beds out of five, and lists of up to some hundreds.
func TestOrderAgainstTheModel(t *testing.T) {
	heights := []float64{minusZero, 0, inf, nans()[1], nans()[4]}
	count := 1
	for long := range 7 {
		for code := range count {
			bed := make([]float64, long)
			for k := range bed {
				bed[k] = heights[code%5]
				code /= 5
			}
			if l, want := Order(bed), modelOrder(bed); !slices.Equal(l, want) {
				t.Fatalf("Order(%v): %v, want %v", bed, l, want)
			}
		}
		count *= 5
	}
	p := newPicker()
	for range 400 {
		bed := p.beds(p.below(400), []int{0, 1, 2, 10, 1 << 30}[p.below(5)])
		if l, want := Order(bed), modelOrder(bed); !slices.Equal(l, want) {
			t.Fatalf("Order(%v): %v, want %v", bed, l, want)
		}
	}
}

// P19.1, P19.4: long lists: every number once, and none ahead of one that should come first.
func TestLongOrders(t *testing.T) {
	p := newPicker()
	for _, heights := range []int{0, 1, 2, 1000, 1 << 40} {
		bed := p.beds(300000, heights)
		if heights == 1000 {
			slices.Sort(bed)
		}
		order := Order(bed)
		if len(order) != len(bed) {
			t.Fatalf("%d heights: %d numbers", heights, len(order))
		}
		times := make([]int, len(bed))
		for k, cell := range order {
			times[cell]++
			if k == 0 {
				continue
			}
			ahead := order[k-1]
			if !modelLess(bed[cell], bed[ahead]) && !(modelSame(bed[cell], bed[ahead]) && ahead < cell) {
				t.Fatalf("%d heights: %d comes ahead of %d", heights, ahead, cell)
			}
		}
		if slices.Min(times) != 1 || slices.Max(times) != 1 {
			t.Errorf("%d heights: not every number comes once", heights)
		}
	}
}

// P19.1: steps of rivers over the net of side 1 by hand; its areas are 1431655765.
func TestRunByHand(t *testing.T) {
	g := made(t, 1)
	falling := []float64{5, 4, 3, 2, 1, 0}
	half := g.Area(0) / 2 // it is odd: the depth of half is just below Shallow, of one more just above
	for _, x := range []struct {
		what           string
		bed            []float64
		water, tracer  map[int]int64
		waters, traces map[int]int64 // behind the step
	}{
		{"nothing", falling, nil, nil, nil, nil},
		{"water of 1", falling, map[int]int64{0: 1}, map[int]int64{0: 9}, map[int]int64{0: 1}, map[int]int64{0: 9}},
		{"water of 3", falling, map[int]int64{0: 3}, map[int]int64{0: 9}, map[int]int64{0: 3}, map[int]int64{0: 9}},
		{"water of 4", falling, map[int]int64{0: 4}, map[int]int64{0: 9}, map[int]int64{0: 3, 5: 1}, map[int]int64{0: 7, 5: 2}},
		{"water of 7", falling, map[int]int64{0: 7}, map[int]int64{0: 9}, map[int]int64{0: 6, 5: 1}, map[int]int64{0: 8, 5: 1}},
		{"water of 8", falling, map[int]int64{0: 8}, map[int]int64{0: 8}, map[int]int64{0: 6, 5: 2}, map[int]int64{0: 6, 5: 2}},
		{"no tracer", falling, map[int]int64{0: 8}, nil, map[int]int64{0: 6, 5: 2}, nil},
		{"too little tracer", falling, map[int]int64{0: 8}, map[int]int64{0: 3}, map[int]int64{0: 6, 5: 2}, map[int]int64{0: 3}},
		{"tracer without water", falling, nil, map[int]int64{0: 9, 3: 7}, nil, map[int]int64{0: 9, 3: 7}},
		{"tracer without water below", falling, map[int]int64{0: 8}, map[int]int64{0: 8, 5: 7}, map[int]int64{0: 6, 5: 2}, map[int]int64{0: 6, 5: 9}},
		{"the lowest keeps its own", falling, map[int]int64{4: 100, 5: 100}, map[int]int64{4: 10, 5: 10}, map[int]int64{4: 100, 5: 100}, map[int]int64{4: 10, 5: 10}},
		{"four rivers", falling, map[int]int64{0: 4, 1: 8, 2: 12, 3: 16, 5: 5}, nil, map[int]int64{0: 3, 1: 6, 2: 9, 3: 12, 5: 15}, nil},
		{"no Down anywhere", make([]float64, 6), map[int]int64{0: 4, 1: 8}, map[int]int64{2: 8, 1: 8}, map[int]int64{0: 4, 1: 8}, map[int]int64{2: 8, 1: 8}},
		{"no Down anywhere: NaNs", nans()[:6], map[int]int64{0: 4, 1: 8}, map[int]int64{2: 8, 1: 8}, map[int]int64{0: 4, 1: 8}, map[int]int64{2: 8, 1: 8}},
		{"noughts don't run into each other", []float64{0, minusZero, 0, minusZero, minusZero, 0}, map[int]int64{0: 4, 1: 8}, nil, map[int]int64{0: 4, 1: 8}, nil},
		{"out of a NaN", []float64{nans()[1], inf, nan, inf, nan, nan}, map[int]int64{0: 4, 1: 8, 2: 12}, nil, map[int]int64{0: 3, 1: 12, 2: 9}, nil},
		{"on at once: 2 into 1 into 0", []float64{0, 1, 2, 3, 4, 5}, map[int]int64{2: 64}, map[int]int64{2: 32}, map[int]int64{2: 48, 1: 12, 0: 4}, map[int]int64{2: 24, 1: 6, 0: 2}},
		{"on at once, with what is there", []float64{0, 1, 2, 3, 4, 5}, map[int]int64{2: 64, 1: 4}, map[int]int64{2: 32, 1: 100}, map[int]int64{2: 48, 1: 15, 0: 5}, map[int]int64{2: 24, 1: 81, 0: 27}},
		{"on at once, tracer without water", []float64{0, 1, 2, 3, 4, 5}, map[int]int64{2: 64}, map[int]int64{1: 100}, map[int]int64{2: 48, 1: 12, 0: 4}, map[int]int64{1: 75, 0: 25}},
		{"not on from a lesser number that is lower", []float64{2, 1, 0, 9, 9, 9}, map[int]int64{0: 64}, nil, map[int]int64{0: 48, 1: 12, 2: 4}, nil},
		{"1 + 3 make 4 ahead of its turn", []float64{0, 1, 2, 9, 9, 9}, map[int]int64{2: 4, 1: 3}, nil, map[int]int64{2: 3, 1: 3, 0: 1}, nil},
		{"a Depth just below Shallow", falling, map[int]int64{0: half}, map[int]int64{0: 100}, map[int]int64{0: half - half/4, 5: half / 4}, map[int]int64{0: 76, 5: 24}},
		{"a Depth just above Shallow", falling, map[int]int64{0: half + 1}, map[int]int64{0: 100}, map[int]int64{0: half + 1}, map[int]int64{0: 100}},
		{"deep", falling, map[int]int64{0: most}, map[int]int64{0: most}, map[int]int64{0: most}, map[int]int64{0: most}},
		{"deep by what ran into it", []float64{0, 1, 2, 9, 9, 9}, map[int]int64{2: 4, 1: half}, nil, map[int]int64{2: 3, 1: half + 1}, nil},
		{"just not deep", []float64{0, 1, 2, 9, 9, 9}, map[int]int64{2: 4, 1: half - 1}, nil, map[int]int64{2: 3, 1: half - half/4, 0: half / 4}, nil},
		{"into a deep one", falling, map[int]int64{0: 8, 5: most - 8}, map[int]int64{0: 8, 5: most - 8}, map[int]int64{0: 6, 5: most - 6}, map[int]int64{0: 6, 5: most - 6}},
		{"the most of tracer", falling, map[int]int64{0: 7}, map[int]int64{0: most}, map[int]int64{0: 6, 5: 1}, map[int]int64{0: most - most/7, 5: most / 7}},
		{"products beyond 64 bits", falling, map[int]int64{0: 1 << 29}, map[int]int64{0: most}, map[int]int64{0: 3 << 27, 5: 1 << 27}, map[int]int64{0: 3 << 50, 5: 1 << 50}},
	} {
		s := flat(g)
		s.Bed, s.Water, s.Tracer = x.bed, set(6, x.water), set(6, x.tracer)
		water, tracer := answered(t, g, s)
		if !slices.Equal(water, set(6, x.waters)) || !slices.Equal(tracer, set(6, x.traces)) {
			t.Errorf("%s: %v and %v: %v, %v, want %v, %v", x.what, s.Water, s.Tracer, water, tracer, set(6, x.waters), set(6, x.traces))
		}
		byModel, tracerByModel, ok := modelRun(g, s)
		if !ok || !slices.Equal(byModel, set(6, x.waters)) || !slices.Equal(tracerByModel, set(6, x.traces)) {
			t.Errorf("%s: by the model %v, %v, %v", x.what, byModel, tracerByModel, ok)
		}
	}
}

// P19.1, P19.3: each cell alone above all others, with a Depth just below Shallow, at it (of areas that are even), and
// just above.
func TestShallow(t *testing.T) {
	for _, side := range []int{1, 2, 3, 4, 5} {
		g := made(t, side)
		at := 0
		for cell := range g.Cells() {
			area := g.Area(cell)
			for water := area/2 - 2; water <= area/2+2; water++ {
				s := flat(g)
				s.Bed[cell], s.Water[cell], s.Tracer[cell] = 1, water, water
				want, depth := slices.Clone(s.Water), level.Depth(water, area)
				if depth < 0.5 {
					want[cell] -= water / 4
					want[modelBeside(side, cell)[0]] += water / 4
				} else if depth == 0.5 {
					at++
				}
				got, tracer := answered(t, g, s)
				if !slices.Equal(got, want) || !slices.Equal(tracer, want) {
					t.Fatalf("side %d, cell %d of area %d with %d: %v, %v", side, cell, area, water, got, tracer)
				}
			}
		}
		if side > 2 && at == 0 {
			t.Errorf("side %d: no Depth just at Shallow", side)
		}
	}
}

// asPromised: P19.2 and P19.3 of what Run answered.
func asPromised(t *testing.T, g *grid.Grid, s api.Sea, water []int64, tracer []int64) {
	t.Helper()
	if modelSum(water).Cmp(modelSum(s.Water)) != 0 || modelSum(tracer).Cmp(modelSum(s.Tracer)) != 0 {
		t.Fatalf("of %v and %v: %v, %v: not all of it is there", s.Water, s.Tracer, water, tracer)
	}
	if slices.Min(water) < 0 || slices.Min(tracer) < 0 {
		t.Fatalf("of %v and %v: %v, %v: below 0", s.Water, s.Tracer, water, tracer)
	}
	for cell := range water {
		still := Down(g, s.Bed, cell) < 0 || level.Depth(s.Water[cell], g.Area(cell)) >= 0.5
		if still && (water[cell] < s.Water[cell] || tracer[cell] < s.Tracer[cell]) {
			t.Fatalf("cell %d, which gives nothing, has less than before", cell)
		}
	}
}

// P19.1, P19.2, P19.3: small waters and tracers of three cells in a row, all of them.
func TestSmallRuns(t *testing.T) {
	g := made(t, 1)
	s := flat(g)
	s.Bed = []float64{0, 1, 2, 9, 9, 9}
	for code := range 18 * 18 {
		for with := range 6 * 6 * 3 {
			s.Water = []int64{0, int64(code % 18), int64(code / 18), 0, 0, 0}
			s.Tracer = []int64{int64(with / 36), int64(with % 6), int64(with / 6 % 6), 0, 0, 0}
			water, tracer := answered(t, g, s)
			want, wantTracer, _ := modelRun(g, s)
			if !slices.Equal(water, want) || !slices.Equal(tracer, wantTracer) {
				t.Fatalf("of %v and %v: %v, %v, want %v, %v", s.Water, s.Tracer, water, tracer, want, wantTracer)
			}
			asPromised(t, g, s, water, tracer)
		}
	}
}

// P19.1, P19.2, P19.3: against the model, beds of few heights and of many, numbers of every size.
func TestRunAgainstTheModel(t *testing.T) {
	p := newPicker()
	for _, side := range []int{1, 2, 3, 4, 8, api.MaxSide} {
		g := made(t, side)
		ran, still := 0, 0
		for _, heights := range []int{0, 1, 2, 3, 10, 1 << 30} {
			for _, power := range []int{3, 5, 10, 29, 31, 32} {
				for range 1 + 40/side/side {
					s := p.sea(g, heights, power)
					water, tracer := answered(t, g, s)
					want, wantTracer, ok := modelRun(g, s)
					if !ok || !slices.Equal(water, want) || !slices.Equal(tracer, wantTracer) {
						t.Fatalf("side %d: beds %v, water %v, tracer %v: %v, %v, want %v, %v", side, s.Bed, s.Water, s.Tracer, water, tracer, want, wantTracer)
					}
					asPromised(t, g, s, water, tracer)
					if slices.Equal(water, s.Water) {
						still++
					} else {
						ran++
					}
				}
			}
		}
		if ran < 20 || still < 5 {
			t.Errorf("side %d: %d ran, %d didn't: too few to tell anything", side, ran, still)
		}
	}
}

// P19.1: over one slope that goes through the cells of a big net, each is gone through as Order says, one by one.
func TestRunCellByCell(t *testing.T) {
	p := newPicker()
	for _, side := range []int{2, 5, 16} {
		g := made(t, side)
		s := p.sea(g, 1<<30, 30)
		water, tracer := slices.Clone(s.Water), slices.Clone(s.Tracer)
		for _, cell := range Order(s.Bed) {
			down := Down(g, s.Bed, cell)
			if down < 0 || 2*water[cell] >= g.Area(cell) {
				continue
			}
			m := water[cell] / 4
			some := share.Part(tracer[cell], m, water[cell])
			water[cell], tracer[cell] = water[cell]-m, tracer[cell]-some
			water[down], tracer[down] = water[down]+m, tracer[down]+some
		}
		got, gotTracer := answered(t, g, s)
		if !slices.Equal(got, water) || !slices.Equal(gotTracer, tracer) {
			t.Errorf("side %d: %v, %v, want %v, %v", side, got, gotTracer, water, tracer)
		}
	}
}

// P19.2: many steps, one behind the other, lose nothing.
func TestManySteps(t *testing.T) {
	p := newPicker()
	for _, side := range []int{1, 3, 6} {
		g := made(t, side)
		s := p.sea(g, 50, 31)
		total, _ := mass.Total(s.Water)
		tracers, _ := mass.Total(s.Tracer)
		for range 200 {
			was := s
			s.Water, s.Tracer = answered(t, g, s)
			asPromised(t, g, was, s.Water, s.Tracer)
		}
		if sum, _ := mass.Total(s.Water); sum != total {
			t.Errorf("side %d: water %d has become %d", side, total, sum)
		}
		if sum, _ := mass.Total(s.Tracer); sum != tracers {
			t.Errorf("side %d: tracer %d has become %d", side, tracers, sum)
		}
	}
}

// others: lists that are nil, too short and too long, the spare room of which would do.
func others[T any](list []T) [][]T {
	long := append(slices.Clone(list), list[0])
	return [][]T{nil, {}, list[:1], list[:len(list)-1], list[1:], long, append(long, list...)}
}

// P19.1: each of the sea's lists too short and too long.
func TestSeasThatDoNotFit(t *testing.T) {
	for _, side := range []int{1, 2} {
		g := made(t, side)
		fit := flat(g)
		answered(t, g, fit)
		for _, list := range others(fit.Bed) {
			s := fit
			s.Bed = list
			refused(t, g, s, "beds that don't fit")
		}
		for _, list := range others(fit.Water) {
			s := fit
			s.Water = list
			refused(t, g, s, "waters that don't fit")
			s = fit
			s.Tracer = list
			refused(t, g, s, "tracers that don't fit")
		}
		for _, list := range others(fit.Speed) {
			s := fit
			s.Speed = list
			refused(t, g, s, "speeds that don't fit")
		}
		s := fit
		s.Bed, s.Speed = s.Speed, s.Bed
		refused(t, g, s, "beds and speeds, one for the other")
		refused(t, g, api.Sea{}, "no lists")
		refused(t, g, flat(made(t, side+1)), "the sea of another net")
	}
}

// P19.1: water or a tracer below 0, at each place; at 0 it is taken.
func TestNumbersBelowNothing(t *testing.T) {
	g := made(t, 2)
	for cell := range g.Cells() {
		for _, n := range []int64{-1, -2, -most, first} {
			for _, all := range []int64{0, 9} {
				s := flat(g)
				s.Water, s.Tracer = same(g.Cells(), all), same(g.Cells(), all)
				s.Water[cell] = n
				refused(t, g, s, "water below 0")
				s.Tracer[cell] = n
				refused(t, g, s, "both below 0")
				s.Water[cell] = 0
				refused(t, g, s, "a tracer below 0")
				s.Tracer[cell] = 0
				answered(t, g, s)
			}
		}
	}
}

// P19.1: sums just at and just above MaxWater, and such as are beyond 63 bits, of waters and of tracers; an addend below
// 0 doesn't make up for the others.
func TestSums(t *testing.T) {
	g := made(t, 1)
	for _, x := range []struct {
		what string
		list []int64
		ok   bool
	}{
		{"none", []int64{0, 0, 0, 0, 0, 0}, true},
		{"just at, in the first", []int64{most, 0, 0, 0, 0, 0}, true},
		{"just at, in the last", []int64{0, 0, 0, 0, 0, most}, true},
		{"just at, in two", []int64{most - 1, 0, 0, 0, 0, 1}, true},
		{"just at, in all", []int64{most / 8, most / 8, most / 8, most / 8, most / 4, most / 4}, true},
		{"one less", []int64{most / 2, 0, 0, 0, 0, most/2 - 1}, true},
		{"one more, in the first", []int64{most + 1, 0, 0, 0, 0, 0}, false},
		{"one more, in the last", []int64{0, 0, 0, 0, 0, most + 1}, false},
		{"one more, in two", []int64{most, 1, 0, 0, 0, 0}, false},
		{"one more, in the first and last", []int64{1, 0, 0, 0, 0, most}, false},
		{"one more, in all", []int64{most / 8, most / 8, most / 8, most / 8, most / 4, most/4 + 1}, false},
		{"twice", []int64{most, most, 0, 0, 0, 0}, false},
		{"the most", []int64{last, 0, 0, 0, 0, 0}, false},
		{"2^63, as int64 the least", []int64{last, 1, 0, 0, 0, 0}, false},
		{"2^63 in two", []int64{0, 1 << 62, 0, 1 << 62, 0, 0}, false},
		{"2^64 comes round to 0", []int64{1 << 62, 1 << 62, 1 << 62, 1 << 62, 0, 0}, false},
		{"2^64 + 3 comes round to 3", []int64{last, last, 5, 0, 0, 0}, false},
		{"2^65 + 2 comes round to 2", []int64{last, last, last, last, 4, 2}, false},
		{"below 0 makes up for it", []int64{most + 1, -1, 0, 0, 0, 0}, false},
		{"below 0 ahead makes up for it", []int64{-1, most + 1, 0, 0, 0, 0}, false},
		{"the least and the most", []int64{first, last, 1, 0, 0, 0}, false},
	} {
		for _, bed := range [][]float64{{5, 4, 3, 2, 1, 0}, {0, 1, 2, 3, 4, 5}, make([]float64, 6)} {
			asWater, asTracer, both := flat(g), flat(g), flat(g)
			asWater.Bed, asTracer.Bed, both.Bed = bed, bed, bed
			asWater.Water, asTracer.Tracer, both.Water, both.Tracer = x.list, x.list, x.list, x.list
			asTracer.Water = same(6, 8)
			for _, s := range []api.Sea{asWater, asTracer, both} {
				if !x.ok {
					refused(t, g, s, x.what)
					continue
				}
				water, tracer := answered(t, g, s)
				asPromised(t, g, s, water, tracer)
			}
			if modelCanBe(x.list) != x.ok {
				t.Errorf("%s: the model says otherwise", x.what)
			}
		}
	}
}

// P19.1: waters together with tracers may be above MaxWater, and what the sky has is of no matter, nor are the steps.
func TestWhatDoesNotCount(t *testing.T) {
	g, p := made(t, 2), newPicker()
	s := p.sea(g, 3, 20)
	water, tracer := answered(t, g, s)
	for _, sky := range []int64{most, last, -1, first} {
		s.Sky, s.Step = sky, int(sky)
		for e := range s.Speed {
			s.Speed[e] = math.Float64frombits(p.next())
		}
		if w, tr := answered(t, g, s); !slices.Equal(w, water) || !slices.Equal(tr, tracer) {
			t.Errorf("sky %d: %v, %v", sky, w, tr)
		}
	}
}

// P19.1: a nil net comes ahead of all else.
func TestNilNet(t *testing.T) {
	fit := flat(made(t, 1))
	low := fit
	low.Water, low.Tracer = same(6, -1), same(6, last)
	for _, s := range []api.Sea{{}, fit, low, {Bed: fit.Bed}} {
		if water, tracer, err := Run(nil, s); err != api.ErrNil || len(water) != 0 || len(tracer) != 0 {
			t.Errorf("of %v: %v, %v, %d", s, water, tracer, err)
		}
	}
}

// roomy: the list with spare room behind it that isn't empty.
func roomy[T any](list []T) []T { return append(slices.Clone(list), list...)[:len(list)] }

func whole[T any](list []T) []T { return list[:cap(list)] }

// spoil the list and its spare room.
func spoil[T any](list []T, by T) {
	room := whole(list)
	for k := range room {
		room[k] = by
	}
}

func sameBits(a, b float64) bool { return math.Float64bits(a) == math.Float64bits(b) }

// P19.5: of Down and Order.
func TestBedsStay(t *testing.T) {
	g, p := made(t, 2), newPicker()
	for _, heights := range []int{0, 1, 5} {
		bed := roomy(p.beds(g.Cells(), heights))
		before := slices.Clone(whole(bed))
		for cell := range bed {
			Down(g, bed, cell)
		}
		one := Order(bed)
		kept := slices.Clone(one)
		spoil(Order(bed), -7)
		if !slices.Equal(one, kept) {
			t.Error("an order that was answered has changed with a later one")
		}
		if !slices.EqualFunc(whole(bed), before, sameBits) {
			t.Error("beds that were handed in have changed")
		}
		spoil(bed, -7)
		if !slices.Equal(one, kept) {
			t.Error("the order hangs on what was handed in")
		}
	}
}

// P19.5: of Run, whether something runs or nothing does, and whether it is taken or refused.
func TestSeasStay(t *testing.T) {
	g, p := made(t, 2), newPicker()
	for _, heights := range []int{0, 1, 5} {
		for _, spoiled := range []int64{0, -1} {
			s := p.sea(g, heights, 20)
			s.Water[g.Cells()-1] += spoiled << 40
			s = api.Sea{Bed: roomy(s.Bed), Water: roomy(s.Water), Tracer: roomy(s.Tracer), Speed: roomy(s.Speed)}
			bed, speed := slices.Clone(whole(s.Bed)), slices.Clone(whole(s.Speed))
			water, tracer := slices.Clone(whole(s.Water)), slices.Clone(whole(s.Tracer))
			w, tr, _ := Run(g, s)
			keptWater, keptTracer := slices.Clone(w), slices.Clone(tr)
			again, againTracer, _ := Run(g, s)
			if !slices.Equal(again, w) || !slices.Equal(againTracer, tr) {
				t.Error("asked again the numbers are others")
			}
			spoil(again, -7)
			if !slices.Equal(againTracer, tr) {
				t.Error("the two lists share memory")
			}
			spoil(againTracer, -7)
			if !slices.EqualFunc(whole(s.Bed), bed, sameBits) || !slices.EqualFunc(whole(s.Speed), speed, sameBits) ||
				!slices.Equal(whole(s.Water), water) || !slices.Equal(whole(s.Tracer), tracer) {
				t.Error("what was handed in has changed")
			}
			spoil(s.Bed, -7)
			spoil(s.Speed, -7)
			spoil(s.Water, -7)
			spoil(s.Tracer, -7)
			if !slices.Equal(w, keptWater) || !slices.Equal(tr, keptTracer) {
				t.Error("an answer shares memory")
			}
		}
	}
}

// P19.5: waters and tracers may be one list, and beds and speeds parts of one; the answers are two lists all the same.
func TestOneListForTwo(t *testing.T) {
	g, p := made(t, 3), newPicker()
	for _, heights := range []int{1, 5} {
		s := p.sea(g, heights, 20)
		s.Tracer = s.Water
		before := slices.Clone(s.Water)
		floats := append(slices.Clone(s.Bed), s.Speed...)
		s.Bed, s.Speed = floats[:g.Cells()], floats[g.Cells():]
		water, tracer := answered(t, g, s)
		if !slices.Equal(water, tracer) || !slices.Equal(s.Water, before) {
			t.Errorf("of one list: %v, %v", water, tracer)
		}
		kept := slices.Clone(tracer)
		spoil(water, -7)
		if !slices.Equal(tracer, kept) {
			t.Error("the two lists share memory")
		}
	}
}

// Calls at the same time, over the same net and lists, answer the same.
func TestCallsAtTheSameTime(t *testing.T) {
	g, p := made(t, 4), newPicker()
	s := p.sea(g, 10, 30)
	water, tracer := answered(t, g, s)
	order := Order(s.Bed)
	waters, tracers, orders := make([][]int64, 8), make([][]int64, 8), make([][]int, 8)
	var calls sync.WaitGroup
	for k := range waters {
		calls.Go(func() {
			waters[k], tracers[k], _ = Run(g, s)
			orders[k] = Order(s.Bed)
		})
	}
	calls.Wait()
	for k := range waters {
		if !slices.Equal(waters[k], water) || !slices.Equal(tracers[k], tracer) || !slices.Equal(orders[k], order) {
			t.Errorf("call %d answered other numbers", k)
		}
	}
}
