package tracer

import (
	"math"
	"math/big"
	"slices"
	"sync"
	"testing"

	"tarn/api"
	"tarn/grid"
	"tarn/mass"
	"tarn/share"
)

const (
	last  = math.MaxInt64
	first = math.MinInt64
	most  = 1 << 52
)

func made(t *testing.T, side int) *grid.Grid {
	t.Helper()
	g, err := grid.New(side)
	if g == nil || err != api.OK {
		t.Fatalf("grid.New(%d) is %v, %d", side, g, err)
	}
	return g
}

// picker: numbers by a rule of its own, the same ones every time.
type picker uint64

func newPicker() *picker {
	p := picker(0x9e3779b97f4a7c15)
	return &p
}

func (p *picker) next() uint64 {
	s := uint64(*p)
	s ^= s << 13
	s ^= s >> 7
	s ^= s << 17
	*p = picker(s)
	return s
}

// below: from 0 up to ahead of n.
func (p *picker) below(n uint64) uint64 { return p.next() >> 1 % n }

// sized: from 0 on, of every size up to so many bits alike.
func (p *picker) sized(power uint64) int64 { return int64(p.next() >> (64 - power) >> p.below(power)) }

func same(n int, x int64) []int64 { return slices.Repeat([]int64{x}, n) }

// set: n noughts, but for those that are named.
func set(n int, of map[int]int64) []int64 {
	l := make([]int64, n)
	for k, x := range of {
		l[k] = x
	}
	return l
}

// enough: waters of which all these flows can go; some cells have just as much as they give.
func (p *picker) enough(g *grid.Grid, flows []int64) []int64 {
	water := make([]int64, g.Cells())
	for cell, outs := range gives(g, flows) {
		for _, out := range outs {
			water[cell] += out
		}
		switch p.below(4) {
		case 0:
			water[cell] += p.sized(62)
		case 1, 2:
			water[cell] += p.sized(6)
		}
	}
	return water
}

// drawn: waters, tracers and flows that fit g; no cell gives more than it has.
func (p *picker) drawn(g *grid.Grid, power uint64) ([]int64, []int64, []int64) {
	flows := make([]int64, g.Edges())
	for e := range flows {
		flow := p.sized(power)
		if p.below(16) == 0 {
			flow = most
		}
		flows[e] = flow * (int64(p.below(3)) - 1)
	}
	water, has := p.enough(g, flows), make([]int64, g.Cells())
	for cell := range has {
		switch p.below(8) {
		case 0:
			has[cell] = 0
		case 1:
			has[cell] = last
		case 2:
			has[cell] = water[cell]
		default:
			has[cell] = p.sized(power + 4)
		}
	}
	return water, has, flows
}

func answered(t *testing.T, g *grid.Grid, water []int64, has []int64, flows []int64) []int64 {
	t.Helper()
	l, err := Flows(g, water, has, flows)
	if err != api.OK || len(l) != g.Edges() {
		t.Fatalf("of the net of side %d: %d numbers, error %d", g.Side(), len(l), err)
	}
	return l
}

func refused(t *testing.T, g *grid.Grid, water []int64, has []int64, flows []int64, what string) {
	t.Helper()
	if l, err := Flows(g, water, has, flows); err != api.ErrArg || len(l) != 0 {
		t.Errorf("%s: %v, %d", what, l, err)
	}
}

// The chapter's examples.
func TestExamples(t *testing.T) {
	for _, x := range []struct {
		water, has int64
		outs, want []int64
		err        api.Errno
	}{
		{10, 5, []int64{3, 4}, []int64{1, 2}, api.OK},
		{10, 5, []int64{3, 4, 3}, []int64{1, 2, 2}, api.OK},
		{10, 10, []int64{3, 4}, []int64{3, 4}, api.OK},
		{0, 5, []int64{0, 0}, []int64{0, 0}, api.OK},
		{10, 0, []int64{10}, []int64{0}, api.OK},
		{10, 5, nil, nil, api.OK},
		{10, 5, []int64{6, 5}, nil, api.ErrArg},
		{10, -1, nil, nil, api.ErrArg},
		{-1, 0, nil, nil, api.ErrArg},
		{10, 5, []int64{-1}, nil, api.ErrArg},
	} {
		if l, err := Takes(x.water, x.has, x.outs); err != x.err || !slices.Equal(l, x.want) {
			t.Errorf("Takes of %v: %v, %d", x, l, err)
		}
	}
}

// P17.1: takes by hand, at the edges that the chapter names.
func TestTakesByHand(t *testing.T) {
	for _, x := range []struct {
		what       string
		water, has int64
		outs, want []int64
	}{
		{"the first gets nothing, the last the one", 3, 1, []int64{1, 1, 1}, []int64{0, 0, 1}},
		{"two among three", 3, 2, []int64{1, 1, 1}, []int64{0, 1, 1}},
		{"an out of 0 between others", 10, 5, []int64{3, 0, 4, 0}, []int64{1, 0, 2, 0}},
		{"the order tells", 10, 5, []int64{4, 3}, []int64{2, 1}},
		{"the same out, unlike takes", 10, 5, []int64{1, 1, 1, 1, 1, 1, 1, 1, 1, 1}, []int64{0, 1, 0, 1, 0, 1, 0, 1, 0, 1}},
		{"just all the water", 10, 7, []int64{9, 1}, []int64{6, 1}},
		{"one less than all", 10, 7, []int64{9}, []int64{6}},
		{"all in one", 10, 7, []int64{10}, []int64{7}},
		{"all, and an out of 0 behind", 10, 7, []int64{10, 0}, []int64{7, 0}},
		{"water of 1", 1, 5, []int64{1}, []int64{5}},
		{"water of 1, nothing goes", 1, 5, []int64{0}, []int64{0}},
		{"more tracer than water", 3, 100, []int64{1, 1, 1}, []int64{33, 33, 34}},
		{"as much tracer as water", 10, 10, []int64{1, 2, 3, 4}, []int64{1, 2, 3, 4}},
		{"tracer of 1", 10, 1, []int64{9, 1}, []int64{0, 1}},
		{"tracer of 0", 10, 0, []int64{3, 4, 3}, []int64{0, 0, 0}},
		{"no water, outs of 0", 0, last, []int64{0, 0, 0, 0}, []int64{0, 0, 0, 0}},
		{"no water, no outs", 0, 5, nil, nil},
		{"neither water nor tracer", 0, 0, []int64{0}, []int64{0}},
		{"nothing at all", 0, 0, []int64{}, nil},
		{"no outs, all there can be", last, last, nil, nil},
		{"the most of both, all goes", last, last, []int64{last}, []int64{last}},
		{"the most of both, in two", last, last, []int64{1, last - 1}, []int64{1, last - 1}},
		{"the most of both, the greater first", last, last, []int64{last - 1, 1}, []int64{last - 1, 1}},
		{"the most of both, one", last, last, []int64{1}, []int64{1}},
		{"the most of tracer, one less of water", last - 1, last, []int64{1, last - 3, 1}, []int64{1, last - 3, 2}},
		{"the most of water, one less of tracer", last, last - 1, []int64{1, last - 2, 1}, []int64{0, last - 2, 1}},
		{"the most of tracer in two quanta", 2, last, []int64{1, 1}, []int64{1<<62 - 1, 1 << 62}},
		{"the most of tracer in one quantum", 1, last, []int64{1}, []int64{last}},
		{"the most of water, one of tracer", last, 1, []int64{last - 1, 1}, []int64{0, 1}},
		{"products beyond 64 bits", 1 << 62, 1 << 61, []int64{1 << 60, 3, 1 << 61}, []int64{1 << 59, 1, 1 << 60}},
	} {
		l, err := Takes(x.water, x.has, x.outs)
		if err != api.OK || !slices.Equal(l, x.want) {
			t.Errorf("%s: Takes(%d, %d, %v): %v, %d, want %v", x.what, x.water, x.has, x.outs, l, err, x.want)
		}
		if want, ok := modelTakes(x.water, x.has, x.outs); !ok || !slices.Equal(want, x.want) {
			t.Errorf("%s: by the model %v, %v", x.what, want, ok)
		}
	}
}

// P17.1: numbers that Takes refuses.
func TestTakesThatAreRefused(t *testing.T) {
	for _, x := range []struct {
		what       string
		water, has int64
		outs       []int64
	}{
		{"water below 0", -1, 5, nil},
		{"water below 0, an empty list", -1, 5, []int64{}},
		{"water below 0, an out of 0", -1, 5, []int64{0}},
		{"water below 0, and as much goes", -1, 5, []int64{-1}},
		{"the least water", first, 5, []int64{0}},
		{"the least water, the greatest out", first, 5, []int64{last}},
		{"the least water, as much goes", first, 5, []int64{first}},
		{"tracer below 0", 10, -1, nil},
		{"tracer below 0, an empty list", 10, -1, []int64{}},
		{"tracer below 0, something goes", 10, -1, []int64{3}},
		{"tracer below 0, no water", 0, -1, []int64{0}},
		{"the least tracer", 10, first, []int64{3}},
		{"both below 0", -1, -1, nil},
		{"an out below 0", 10, 5, []int64{-1}},
		{"an out below 0, first", 10, 5, []int64{-1, 1, 1}},
		{"an out below 0, between", 10, 5, []int64{1, -1, 1}},
		{"an out below 0, last", 10, 5, []int64{1, 1, -1}},
		{"an out below 0, no tracer", 10, 0, []int64{-1}},
		{"an out below 0, no water", 0, 5, []int64{-1, 1}},
		{"the least out", 10, 5, []int64{first}},
		{"the least out, the most water", last, 5, []int64{first}},
		{"an out below 0 makes it enough", 10, 5, []int64{11, -1}},
		{"an out below 0 ahead makes it enough", 10, 5, []int64{-1, 11}},
		{"one more than there is", 10, 5, []int64{11}},
		{"one more in two", 10, 5, []int64{9, 2}},
		{"one more, the last of them", 10, 5, []int64{10, 0, 1}},
		{"one more, the first of them", 10, 5, []int64{11, 0}},
		{"one more, no tracer", 10, 0, []int64{11}},
		{"one of a cell without water", 0, 5, []int64{1}},
		{"one of nothing at all", 0, 0, []int64{0, 1}},
		{"one more than the most", last, 5, []int64{last, 1}},
		{"one more than the most, the lesser first", last, 5, []int64{1, last}},
		{"2^63", last, last, []int64{1 << 62, 1 << 62}},
		{"2^64 - 2, as int64 -2", last, 5, []int64{last, last}},
		{"2^64 comes round to 0", last, 5, []int64{last, last, 2}},
		{"2^64 + 5 comes round to 5", 10, 5, []int64{last, last, 7}},
		{"2^64 of no water", 0, 5, []int64{1 << 62, 1 << 62, 1 << 62, 1 << 62}},
		{"2^65 + 3 comes round to 3", 10, 5, []int64{last, last, last, last, 7}},
	} {
		if l, err := Takes(x.water, x.has, x.outs); err != api.ErrArg || len(l) != 0 {
			t.Errorf("%s: Takes(%d, %d, %v): %v, %d", x.what, x.water, x.has, x.outs, l, err)
		}
		if _, ok := modelTakes(x.water, x.has, x.outs); ok {
			t.Errorf("%s: the model takes it", x.what)
		}
	}
}

// asPromised: P17.2 and P17.3 of what Takes answered.
func asPromised(t *testing.T, water int64, has int64, outs []int64, takes []int64) {
	t.Helper()
	for k, n := range takes {
		part := share.Part(has, outs[k], water)
		if n < 0 || n != part && n != part+1 {
			t.Fatalf("Takes(%d, %d, %v): %v: one isn't its part, nor one more", water, has, outs, takes)
		}
		if outs[k] == 0 && n != 0 || has == 0 && n != 0 || has == water && n != outs[k] {
			t.Fatalf("Takes(%d, %d, %v): %v: out %d", water, has, outs, takes, k)
		}
	}
	gone, sum := modelSum(outs), modelSum(takes)
	if sum.Cmp(modelPart(has, gone, water)) != 0 || sum.Cmp(big.NewInt(has)) > 0 {
		t.Fatalf("Takes(%d, %d, %v): %v: together they are %v", water, has, outs, takes, sum)
	}
	if water > 0 && gone.Cmp(big.NewInt(water)) == 0 && sum.Cmp(big.NewInt(has)) != 0 {
		t.Fatalf("Takes(%d, %d, %v): %v: all the water goes, not all the tracer", water, has, outs, takes)
	}
}

// P17.1, P17.2, P17.3: every water, tracer and three outs that are small.
func TestSmallTakes(t *testing.T) {
	for water := int64(-1); water <= 6; water++ {
		for has := int64(-1); has <= 8; has++ {
			for code := range int64(9 * 9 * 9) {
				outs := []int64{code/81 - 1, code/9%9 - 1, code%9 - 1}
				l, err := Takes(water, has, outs)
				want, ok := modelTakes(water, has, outs)
				if ok != (err == api.OK) || !slices.Equal(l, want) || !ok && err != api.ErrArg {
					t.Fatalf("Takes(%d, %d, %v): %v, %d, want %v", water, has, outs, l, err, want)
				}
				if ok {
					asPromised(t, water, has, outs, l)
				}
			}
		}
	}
}

// outs of up to 8 numbers; now and then one below 0, or so many that together they are beyond 63 bits.
func (p *picker) outs() []int64 {
	out := make([]int64, p.below(9))
	power := 1 + p.below(63)
	for k := range out {
		out[k] = p.sized(power)
		if p.below(64) == 0 {
			out[k] = -out[k]
		}
	}
	return out
}

// waterFor: now and then any, else about as much as goes out, from one less on.
func (p *picker) waterFor(outs []int64) int64 {
	sum := modelSum(outs)
	if p.below(4) == 0 || !sum.IsInt64() || sum.Int64() > last-64 {
		return p.sized(63)
	}
	return sum.Int64() - 1 + int64(p.below(3)) + p.sized(5)
}

// P17.1, P17.2, P17.3: against the model, of numbers of every size.
func TestTakesAgainstTheModel(t *testing.T) {
	p := newPicker()
	whole, part, refused := 0, 0, 0
	for range 60000 {
		outs := p.outs()
		water, has := p.waterFor(outs), p.sized(63)
		if p.below(8) == 0 {
			has = water
		}
		l, err := Takes(water, has, outs)
		want, ok := modelTakes(water, has, outs)
		if ok != (err == api.OK) || !slices.Equal(l, want) || !ok && err != api.ErrArg {
			t.Fatalf("Takes(%d, %d, %v): %v, %d, want %v", water, has, outs, l, err, want)
		}
		if !ok {
			refused++
			continue
		}
		asPromised(t, water, has, outs, l)
		if modelSum(l).Cmp(big.NewInt(has)) == 0 {
			whole++
		} else {
			part++
		}
	}
	if whole < 1000 || part < 1000 || refused < 1000 {
		t.Errorf("%d times all of it, %d times a part, %d refused: too few to tell anything", whole, part, refused)
	}
}

// P17.2: long lists too: what rounding leaves doesn't add up.
func TestTakesOfManyOuts(t *testing.T) {
	for _, count := range []int{1, 2, 3, 100, 1000} {
		outs := same(count, 3)
		for _, more := range []int64{0, 1, 1000} {
			water := 3*int64(count) + more
			for _, has := range []int64{0, 1, 2, int64(count), water - 1, water, water + 1, 7*water + 3, most, last} {
				l, err := Takes(water, has, outs)
				if err != api.OK || len(l) != count {
					t.Fatalf("%d outs: %d, %d", count, len(l), err)
				}
				asPromised(t, water, has, outs, l)
			}
		}
	}
}

// P17.1: cells of the net of side 1 by hand. Its edges 0 to 3 go from cell 0 to 1, 4, 3 and 5; 4 to 6 from 1 to 2, 4
// and 5; 7 to 9 from 2 to 3, 4 and 5; 10 and 11 from 3 to 4 and 5.
func TestFlowsByHand(t *testing.T) {
	g := made(t, 1)
	for _, x := range []struct {
		what       string
		water, has []int64
		flows      map[int]int64
		want       map[int]int64
	}{
		{"nothing goes", same(6, 10), same(6, 5), nil, nil},
		{"out over three sides", same(6, 10), same(6, 5), map[int]int64{0: 3, 1: 4, 2: 3}, map[int]int64{0: 1, 1: 2, 2: 2}},
		{"out over all four sides, just all", same(6, 10), same(6, 5), map[int]int64{0: 1, 1: 2, 2: 3, 3: 4}, map[int]int64{0: 0, 1: 1, 2: 2, 3: 2}},
		{"out over all four sides, one less", same(6, 10), same(6, 5), map[int]int64{0: 1, 1: 2, 2: 3, 3: 3}, map[int]int64{0: 0, 1: 1, 2: 2, 3: 1}},
		{"in over all four sides", same(6, 10), same(6, 5), map[int]int64{0: -1, 1: -2, 2: -3, 3: -4}, map[int]int64{0: 0, 1: -1, 2: -1, 3: -2}},
		{"in over two sides, out over two", same(6, 10), same(6, 5), map[int]int64{0: -3, 1: 5, 2: -5, 3: 5}, map[int]int64{0: -1, 1: 2, 2: -2, 3: 3}},
		{"what comes in doesn't go on", []int64{10, 3, 5, 5, 5, 5}, []int64{9, 2, 0, 0, 0, 0}, map[int]int64{0: 10, 4: 3}, map[int]int64{0: 9, 4: 2}},
		{"a Right gives by its own tracer", same(6, 10), []int64{8, 2, 0, 0, 0, 0}, map[int]int64{0: -5}, map[int]int64{0: -1}},
		{"a Left gives by its own tracer", same(6, 10), []int64{8, 2, 0, 0, 0, 0}, map[int]int64{0: 5}, map[int]int64{0: 4}},
		{"out of cell 1, in the order of its sides: edges 4, 5, 0, 6", same(6, 4), same(6, 2), map[int]int64{0: -1, 4: 1, 5: 1, 6: 1}, map[int]int64{5: 1, 6: 1}},
		{"out of cell 5, in the order of its sides: edges 6, 3, 11, 9", same(6, 4), same(6, 2), map[int]int64{3: -1, 6: -1, 9: -1, 11: -1}, map[int]int64{3: -1, 9: -1}},
		{"cells without water, nothing goes", same(6, 0), same(6, 5), nil, nil},
		{"cells without tracer", same(6, 10), same(6, 0), map[int]int64{0: 10, 5: -10, 7: 3}, nil},
		{"as much tracer as water", same(6, 10), same(6, 10), map[int]int64{0: 7, 2: 3, 4: -8}, map[int]int64{0: 7, 2: 3, 4: -8}},
		{"MaxWater both ways", same(6, most), same(6, 7), map[int]int64{0: most, 2: -most}, map[int]int64{0: 7, 2: -7}},
		{"four of MaxWater, just all", same(6, 4*most), same(6, last), map[int]int64{0: most, 1: most, 2: most, 3: most}, map[int]int64{0: 1<<61 - 1, 1: 1 << 61, 2: 1 << 61, 3: 1 << 61}},
		{"the most water, the most tracer", same(6, last), same(6, last), map[int]int64{0: most, 4: -most}, map[int]int64{0: most, 4: -most}},
		{"the most tracer in one quantum", same(6, 1), same(6, last), map[int]int64{0: 1, 7: -1}, map[int]int64{0: last, 7: -last}},
	} {
		l, want := answered(t, g, x.water, x.has, set(12, x.flows)), set(12, x.want)
		if !slices.Equal(l, want) {
			t.Errorf("%s: %v, want %v", x.what, l, want)
		}
	}
}

// P17.1: each cell's four sides, some at a time, among the other cells' flows.
func TestEachSideOfEachCell(t *testing.T) {
	for _, side := range []int{1, 2, 3} {
		g := made(t, side)
		for cell := range g.Cells() {
			for chosen := range 16 {
				water, has := same(g.Cells(), last), same(g.Cells(), last)
				flows, want := same(g.Edges(), 5), same(g.Edges(), 5)
				water[cell], has[cell] = 112, 37 // all four sides together give all of it
				gone, taken := int64(0), int64(0)
				for over := range 4 {
					e, sign := g.Around(cell, over)
					flows[e], want[e] = -7*int64(sign), -7*int64(sign) // into the cell
					if chosen>>over&1 == 1 {
						out := int64(10*over + 13)
						gone += out
						flows[e] = int64(sign) * out
						want[e] = int64(sign) * (gone*37/112 - taken)
						taken = gone * 37 / 112
					}
				}
				if l := answered(t, g, water, has, flows); !slices.Equal(l, want) {
					t.Fatalf("side %d, cell %d, sides %04b: %v, want %v", side, cell, chosen, l, want)
				}
				water[cell] = gone
				answered(t, g, water, has, flows)
				if gone > 0 {
					water[cell]--
					refused(t, g, water, has, flows, "one quantum more than it has")
				}
			}
		}
	}
}

// P17.1, P17.4: against the model, of numbers of every size; behind the flows all of the tracer is there, in cells that
// have from nothing on.
func TestFlowsAgainstTheModel(t *testing.T) {
	p := newPicker()
	for _, side := range []int{1, 2, 3, 4, 5, 8, api.MaxSide} {
		g := made(t, side)
		some, none := 0, 0
		for _, power := range []uint64{1, 2, 3, 5, 8, 20, 33, 40, 51, 52} {
			for range 1 + 40/side/side {
				water, has, flows := p.drawn(g, power)
				l := answered(t, g, water, has, flows)
				if want, ok := modelFlows(g, water, has, flows); !ok || !slices.Equal(l, want) {
					t.Fatalf("side %d: %v of %v with %v: %v, want %v", side, flows, water, has, l, want)
				}
				for e, n := range l {
					if n > 0 && flows[e] <= 0 || n < 0 && flows[e] >= 0 {
						t.Fatalf("side %d: with %d over %d there goes %d", side, flows[e], e, n)
					} else if n != 0 {
						some++
					} else if flows[e] != 0 {
						none++
					}
				}
				for cell, outs := range gives(g, l) {
					if sum := modelSum(outs[:]); sum.Cmp(big.NewInt(has[cell])) > 0 {
						t.Fatalf("side %d: cell %d has %d and gives %v", side, cell, has[cell], sum)
					}
				}
			}
		}
		if some < 50 || none < 50 {
			t.Errorf("side %d: %d times something, %d times nothing: too few to tell anything", side, some, none)
		}
	}
}

// P17.1: one cell that gives one quantum more than it has, among all others that don't.
func TestCellsThatGiveTooMuch(t *testing.T) {
	p := newPicker()
	for _, side := range []int{1, 2, 4} {
		g := made(t, side)
		tried := 0
		for _, power := range []uint64{1, 3, 20, 52} {
			water, has, flows := p.drawn(g, power)
			for cell, outs := range gives(g, flows) {
				sum, was := modelSum(outs[:]).Int64(), water[cell]
				water[cell] = sum
				answered(t, g, water, has, flows)
				if sum > 0 {
					tried++
					water[cell] = sum - 1
					refused(t, g, water, has, flows, "one quantum more than it has")
					water[cell] = 0
					refused(t, g, water, has, flows, "a cell without water gives")
				}
				water[cell] = was
			}
		}
		if tried < 10 {
			t.Errorf("side %d: %d cells: too few to tell anything", side, tried)
		}
	}
}

// P17.4: with the flows that layer 14 has cut, whatever they were, layer 15 moves the tracer, and none is lost.
func TestTheTracerIsKept(t *testing.T) {
	p := newPicker()
	for _, side := range []int{1, 2, 5} {
		g := made(t, side)
		for range 100 {
			flows, water, has := make([]int64, g.Edges()), make([]int64, g.Cells()), make([]int64, g.Cells())
			for e := range flows {
				flows[e] = p.sized(40) * (int64(p.below(3)) - 1)
			}
			for cell := range water {
				water[cell], has[cell] = p.sized(40), p.sized(50)
			}
			cut, _ := share.All(g, water, flows)
			l := answered(t, g, water, has, cut)
			behind, err := mass.Move(g, has, l)
			if err != api.OK || modelSum(behind).Cmp(modelSum(has)) != 0 {
				t.Fatalf("side %d: %v moved by %v: %v, %d", side, has, l, behind, err)
			}
		}
	}
}

// P17.3: as much of the tracer as of water in each cell goes as the water does; of no tracer none goes.
func TestTracerLikeWater(t *testing.T) {
	p := newPicker()
	for _, side := range []int{1, 2, 4} {
		g := made(t, side)
		for _, power := range []uint64{1, 5, 20, 52} {
			water, _, flows := p.drawn(g, power)
			if l := answered(t, g, water, water, flows); !slices.Equal(l, flows) {
				t.Errorf("side %d: with %v goes %v", side, flows, l)
			}
			if l := answered(t, g, water, same(g.Cells(), 0), flows); !slices.Equal(l, same(g.Edges(), 0)) {
				t.Errorf("side %d: of nothing goes %v", side, l)
			}
			if l := answered(t, g, water, same(g.Cells(), last), same(g.Edges(), 0)); !slices.Equal(l, same(g.Edges(), 0)) {
				t.Errorf("side %d: with no water goes %v", side, l)
			}
		}
	}
}

// others: lists that are nil, too short and too long, the spare room of which would do.
func others(list []int64) [][]int64 {
	long := append(slices.Clone(list), list[0])
	return [][]int64{nil, {}, list[:1], list[:len(list)-1], list[1:], long, append(long, list...)}
}

// P17.1: each of the three lists too short and too long.
func TestListsThatDoNotFit(t *testing.T) {
	for _, side := range []int{1, 2} {
		g := made(t, side)
		water, has, flows := same(g.Cells(), 28), same(g.Cells(), 9), same(g.Edges(), 7)
		for _, list := range others(water) {
			refused(t, g, list, has, flows, "waters that don't fit")
			refused(t, g, list, list, flows, "neither waters nor tracers that fit")
		}
		for _, list := range others(has) {
			refused(t, g, water, list, flows, "tracers that don't fit")
		}
		for _, list := range others(flows) {
			refused(t, g, water, has, list, "flows that don't fit")
		}
		refused(t, g, nil, nil, nil, "no lists")
		refused(t, g, flows, has, water, "waters and flows, one for the other")
		refused(t, g, water, flows, has, "tracers and flows, one for the other")
		refused(t, g, water, has, water, "as many flows as cells")
		refused(t, g, flows, flows, flows, "as many waters and tracers as edges")
		next := made(t, side+1)
		refused(t, g, same(next.Cells(), 28), same(next.Cells(), 9), same(next.Edges(), 7), "the lists of another net")
		answered(t, g, water, has, flows)
	}
}

// P17.1: water or a tracer below 0, at each place, also where nothing goes; at 0 it is taken.
func TestNumbersBelowNothing(t *testing.T) {
	g := made(t, 2)
	for cell := range g.Cells() {
		for _, n := range []int64{-1, -2, -most, first} {
			for _, flow := range []int64{0, 7} {
				list, flows := same(g.Cells(), 28), same(g.Edges(), flow)
				list[cell] = n
				refused(t, g, list, same(g.Cells(), 9), flows, "water below 0")
				refused(t, g, same(g.Cells(), 28), list, flows, "a tracer below 0")
				refused(t, g, list, list, flows, "both below 0")
			}
		}
		for _, n := range []int64{0, 1, last} {
			list := same(g.Cells(), 28)
			list[cell] = n
			answered(t, g, list, same(g.Cells(), 9), same(g.Edges(), 0))
			answered(t, g, same(g.Cells(), 28), list, same(g.Edges(), 7))
		}
	}
}

// P17.1: flows just at and beyond MaxWater, either way, at each place.
func TestFlowsAboutMaxWater(t *testing.T) {
	g := made(t, 2)
	for e := range g.Edges() {
		for _, n := range []int64{most + 1, -most - 1, 1 << 53, -1 << 53, 1 << 62, -1 << 62, last, -last, first} {
			flows := same(g.Edges(), 0)
			flows[e] = n
			refused(t, g, same(g.Cells(), 28), same(g.Cells(), 9), flows, "a flow beyond MaxWater")
			refused(t, g, same(g.Cells(), last), same(g.Cells(), 9), flows, "a flow beyond MaxWater, and enough water")
		}
		for _, n := range []int64{most, -most, most - 1, 1 - most} {
			flows := same(g.Edges(), 0)
			flows[e] = n
			if l := answered(t, g, same(g.Cells(), most), same(g.Cells(), most), flows); !slices.Equal(l, flows) {
				t.Errorf("%d over %d: %v", n, e, l)
			}
		}
	}
}

// P17.1: a nil net comes ahead of all else.
func TestNilNet(t *testing.T) {
	for _, water := range [][]int64{nil, {}, same(6, 28), same(6, -1)} {
		for _, has := range [][]int64{nil, {}, same(6, 9), same(6, -1)} {
			for _, flows := range [][]int64{nil, {}, same(12, 7), same(12, first)} {
				if l, err := Flows(nil, water, has, flows); err != api.ErrNil || len(l) != 0 {
					t.Errorf("%v of %v with %v: %v, %d", flows, water, has, l, err)
				}
			}
		}
	}
}

// roomy: the list with spare room behind it that isn't empty.
func roomy(list []int64) []int64 { return append(slices.Clone(list), list...)[:len(list)] }

func whole(list []int64) []int64 { return list[:cap(list)] }

// spoil the list and its spare room.
func spoil(list []int64) {
	room := whole(list)
	for k := range room {
		room[k] = -7
	}
}

// P17.5: of Takes, whether each out takes as much as it is or not, and of a list that is empty but for its spare room.
func TestWhatTakesIsHandedStays(t *testing.T) {
	for _, has := range []int64{0, 4, 6, 100} {
		for _, count := range []int{0, 3} {
			outs := roomy([]int64{1, 2, 3})[:count]
			before := slices.Clone(whole(outs))
			one, _ := Takes(6, has, outs)
			kept := slices.Clone(one)
			two, _ := Takes(6, has, outs)
			spoil(two)
			if !slices.Equal(one, kept) || !slices.Equal(whole(outs), before) {
				t.Errorf("tracer %d: an answer shares memory: %v, %v", has, one, whole(outs))
			}
			spoil(outs)
			if !slices.Equal(one, kept) {
				t.Errorf("tracer %d: the answer hangs on what was handed in: %v", has, one)
			}
		}
	}
}

// P17.5: of Takes and Flows that refuse what they are handed.
func TestWhatIsRefusedStays(t *testing.T) {
	g := made(t, 1)
	outs, water, has, flows := []int64{1, 2, 8}, []int64{9, 9, 9, 9, 9, 0}, same(6, 5), same(12, 1)
	Takes(10, 5, outs)
	flows[3] = -1
	refused(t, g, water, has, flows, "the last cell gives and has no water")
	if !slices.Equal(outs, []int64{1, 2, 8}) || !slices.Equal(water, []int64{9, 9, 9, 9, 9, 0}) || !slices.Equal(has, same(6, 5)) ||
		!slices.Equal(flows, []int64{1, 1, 1, -1, 1, 1, 1, 1, 1, 1, 1, 1}) {
		t.Errorf("what was handed in has changed: %v, %v, %v, %v", outs, water, has, flows)
	}
}

// P17.5: of Flows.
func TestWhatFlowsIsHandedStays(t *testing.T) {
	g, p := made(t, 2), newPicker()
	for _, power := range []uint64{1, 8, 52} {
		water, has, flows := p.drawn(g, power)
		for _, has := range [][]int64{roomy(has), roomy(water), roomy(same(g.Cells(), 0))} {
			water, flows := roomy(water), roomy(flows)
			waters, tracers, goes := slices.Clone(whole(water)), slices.Clone(whole(has)), slices.Clone(whole(flows))
			one := answered(t, g, water, has, flows)
			kept := slices.Clone(one)
			spoil(answered(t, g, water, has, flows))
			if !slices.Equal(one, kept) {
				t.Error("a list that was answered has changed with a later one")
			}
			if !slices.Equal(whole(water), waters) || !slices.Equal(whole(has), tracers) || !slices.Equal(whole(flows), goes) {
				t.Error("what was handed in has changed")
			}
			if again := answered(t, g, water, has, flows); !slices.Equal(again, kept) {
				t.Error("asked again the numbers are others")
			}
			spoil(water)
			spoil(has)
			spoil(flows)
			if !slices.Equal(one, kept) {
				t.Error("the answer hangs on what was handed in")
			}
		}
	}
}

// Waters and tracers may be one list.
func TestOneListForTwo(t *testing.T) {
	g, p := made(t, 3), newPicker()
	water, _, flows := p.drawn(g, 20)
	before := slices.Clone(water)
	if l := answered(t, g, water, water, flows); !slices.Equal(l, flows) || !slices.Equal(water, before) {
		t.Errorf("of one list: %v", l)
	}
}

// Calls at the same time, over the same net and lists, answer the same.
func TestCallsAtTheSameTime(t *testing.T) {
	g, p := made(t, 4), newPicker()
	water, has, flows := p.drawn(g, 20)
	want := answered(t, g, water, has, flows)
	rows := make([][]int64, 8)
	var calls sync.WaitGroup
	for k := range rows {
		calls.Go(func() { rows[k], _ = Flows(g, water, has, flows) })
	}
	calls.Wait()
	for k, l := range rows {
		if !slices.Equal(l, want) {
			t.Errorf("call %d answered other numbers", k)
		}
	}
}
