package share

import (
	"math"
	"math/big"
	"slices"
	"sync"
	"testing"

	"tarn/api"
	"tarn/cube"
	"tarn/grid"
)

const (
	last  = math.MaxInt64
	first = math.MinInt64
	most  = 1 << 52
)

func made(t *testing.T, side int) *grid.Grid {
	t.Helper()
	g, err := grid.New(side)
	if g == nil || err != api.OK {
		t.Fatalf("grid.New(%d) is %v, %d", side, g, err)
	}
	return g
}

// picker: numbers by a rule of its own, the same ones every time.
type picker uint64

func newPicker() *picker {
	p := picker(0x9e3779b97f4a7c15)
	return &p
}

func (p *picker) next() uint64 {
	s := uint64(*p)
	s ^= s << 13
	s ^= s >> 7
	s ^= s << 17
	*p = picker(s)
	return s
}

// below: from 0 up to ahead of n.
func (p *picker) below(n uint64) uint64 { return p.next() >> 1 % n }

// sized: from 0 on, of every size up to so many bits alike.
func (p *picker) sized(power uint64) int64 { return int64(p.next() >> (64 - power) >> p.below(power)) }

// edges: whole numbers about which something turns, in order.
func edges() []int64 {
	return []int64{first, first + 1, -most - 1, -1 << 32, -2, -1, 0, 1, 2, 3, 5, 7, 10, 1<<31 - 1, 1 << 31, 1<<32 - 1, 1 << 32, 1<<32 + 1,
		most - 1, most, most + 1, 1<<61 - 1, 1 << 61, 1<<62 - 1, 1 << 62, 1<<62 + 1, last - 2, last - 1, last}
}

func same(n int, x int64) []int64 { return slices.Repeat([]int64{x}, n) }

// drawn: waters and flows that fit g, some cells with more than they give and some with less.
func (p *picker) drawn(g *grid.Grid, power uint64) ([]int64, []int64) {
	water, flows := make([]int64, g.Cells()), make([]int64, g.Edges())
	for cell := range water {
		switch p.below(8) {
		case 0:
			water[cell] = 0
		case 1:
			water[cell] = last
		default:
			water[cell] = p.sized(power + 1)
		}
	}
	for e := range flows {
		flow := p.sized(power)
		if p.below(8) == 0 {
			flow = most
		}
		flows[e] = flow * (int64(p.below(3)) - 1)
	}
	return water, flows
}

func answered(t *testing.T, g *grid.Grid, water []int64, flows []int64) []int64 {
	t.Helper()
	l, err := All(g, water, flows)
	if err != api.OK || len(l) != g.Edges() {
		t.Fatalf("of the net of side %d: %d numbers, error %d", g.Side(), len(l), err)
	}
	return l
}

// The chapter's examples.
func TestExamples(t *testing.T) {
	for _, x := range [][4]int64{
		{7, 3, 2, 10},
		{1 << 62, 1 << 62, 1 << 62, 1 << 62},
		{1 << 62, 4, 1, last},
		{1, 1, 0, 0},
		{-1, 1, 1, 0},
		{1, 1, -1, 0},
		{0, 5, 3, 0},
	} {
		if n := Part(x[0], x[1], x[2]); n != x[3] {
			t.Errorf("Part of %v: %d", x, n)
		}
	}
	for _, x := range []struct {
		water      int64
		outs, want []int64
		err        api.Errno
	}{
		{10, []int64{3, 4}, []int64{3, 4}, api.OK},
		{10, []int64{10, 10}, []int64{5, 5}, api.OK},
		{10, []int64{10, 5, 0}, []int64{6, 3, 0}, api.OK},
		{0, []int64{1, 2}, []int64{0, 0}, api.OK},
		{5, nil, nil, api.OK},
		{-1, nil, nil, api.ErrArg},
		{5, []int64{-1}, nil, api.ErrArg},
		{5, []int64{last, 1}, nil, api.ErrArg},
	} {
		if l, err := Cut(x.water, x.outs); err != x.err || !slices.Equal(l, x.want) {
			t.Errorf("Cut of %v: %v, %d", x, l, err)
		}
	}
	g := made(t, 1)
	flows := append(same(4, 7), make([]int64, 8)...)
	if l := answered(t, g, same(6, 10), flows); !slices.Equal(l, append(same(4, 2), make([]int64, 8)...)) {
		t.Errorf("out of cell 0: %v", l)
	}
	flows = append(same(4, -7), make([]int64, 8)...)
	if l := answered(t, g, same(6, 10), flows); !slices.Equal(l, flows) {
		t.Errorf("into cell 0: %v", l)
	}
}

// P14.1: products beyond 2^64, and parts just at and just above 2^63 - 1.
func TestPartsByHand(t *testing.T) {
	for _, x := range [][4]int64{
		{5, 5, 7, 3},
		{5, 5, 25, 1},
		{5, 5, 26, 0},
		{1, 1, last, 0},
		{last, 1, 1, last},
		{1, last, 1, last},
		{last, last, last, last},
		{last, last - 1, last, last - 1},
		{last - 1, last, last, last - 1},
		{last - 1, last - 1, last, last - 2}, // 2^63 - 3 and a rest of 1
		{last, last, last - 1, last},         // 2^63 and a rest of 1
		{last, last - 1, last - 1, last},
		{last, last, 1, last}, // more than 64 bits
		{last, last, 2, last},
		{last, 4, 2, last},
		{last, 3, 3, last},
		{last, 2, 2, last},
		{last, 2, 1, last},                   // 2^64 - 2: all 64 bits
		{1 << 62, 4, 1, last},                // 2^64
		{1 << 62, 8, 2, last},                // 2^64, as 2 * 2^64 / 2
		{1 << 62, 8, 3, last},                // 2^65 / 3, of 64 bits
		{1 << 62, 8, 5, 7378697629483820646}, // 2^65 / 5
		{1 << 62, 2, 1, last},                // 2^63
		{1<<62 - 1, 2, 1, last - 1},          // 2^63 - 2
		{1 << 61, 3, 1, 3 << 61},             // just below
		{1 << 40, 1 << 40, 1 << 17, last},
		{1 << 40, 1 << 40, 1<<17 + 1, 1<<63 - 1<<46 + 1<<29 - 1<<12},
		{1 << 40, 1 << 40, 1 << 18, 1 << 62},
		{1 << 32, 1 << 32, 1 << 32, 1 << 32},
		{1<<32 + 1, 1<<32 - 1, 1 << 32, 1<<32 - 1},
		{last, 0, 1, 0},
		{0, last, last, 0},
		{0, 0, 1, 0},
		{0, 0, 0, 0},
	} {
		if n := Part(x[0], x[1], x[2]); n != x[3] || modelOf(x[0], x[1], x[2]) != n {
			t.Errorf("Part of %v: %d, by the model %d", x, n, modelOf(x[0], x[1], x[2]))
		}
	}
}

// P14.1: nothing of a z of 0, and of a number below 0 at each place, more than one of them too.
func TestPartsOfNoughtAndBelow(t *testing.T) {
	for _, x := range edges() {
		for _, y := range edges() {
			if n := Part(x, y, 0); n != 0 {
				t.Errorf("Part(%d, %d, 0): %d", x, y, n)
			}
			for _, low := range []int64{first, first + 1, -1 << 32, -2, -1} {
				if a, b, c := Part(low, x, y), Part(x, low, y), Part(x, y, low); a != 0 || b != 0 || c != 0 {
					t.Errorf("of %d beside %d and %d: %d, %d, %d", low, x, y, a, b, c)
				}
			}
		}
	}
}

// P14.1: against the model, at all threes of some numbers and at numbers of every size.
func TestPartAgainstTheModel(t *testing.T) {
	for _, x := range edges() {
		for _, y := range edges() {
			for _, z := range edges() {
				if n, want := Part(x, y, z), modelOf(x, y, z); n != want {
					t.Fatalf("Part(%d, %d, %d): %d, want %d", x, y, z, n, want)
				}
			}
		}
	}
	p := newPicker()
	beyond, full := 0, 0
	for range 60000 {
		x, y, z := p.sized(63), p.sized(63), p.sized(63)
		n, want := Part(x, y, z), modelOf(x, y, z)
		if n != want {
			t.Fatalf("Part(%d, %d, %d): %d, want %d", x, y, z, n, want)
		}
		if big.NewInt(0).Mul(big.NewInt(x), big.NewInt(y)).BitLen() > 64 && n < last {
			beyond++
		}
		if n == last {
			full++
		}
	}
	if beyond < 1000 || full < 1000 {
		t.Errorf("%d products beyond 2^64, %d parts beyond 2^63 - 1: too few to tell anything", beyond, full)
	}
}

// P14.1: outs that together are just at, and just above, the water; none; no water.
func TestCutsAboutTheWater(t *testing.T) {
	for _, x := range []struct {
		water      int64
		outs, want []int64
	}{
		{10, []int64{4, 6}, []int64{4, 6}},
		{10, []int64{4, 7}, []int64{3, 6}},
		{11, []int64{4, 7}, []int64{4, 7}},
		{9, []int64{10}, []int64{9}},
		{10, []int64{10}, []int64{10}},
		{10, []int64{11}, []int64{10}},
		{1, []int64{1, 1, 1, 1}, []int64{0, 0, 0, 0}},
		{3, []int64{1, 1, 1, 1}, []int64{0, 0, 0, 0}},
		{4, []int64{1, 1, 1, 1}, []int64{1, 1, 1, 1}},
		{4, []int64{3, 0, 2, 0}, []int64{2, 0, 1, 0}},
		{0, []int64{0, 0, 0}, []int64{0, 0, 0}},
		{0, []int64{0, last, 0}, []int64{0, 0, 0}},
		{0, nil, nil},
		{0, []int64{}, nil},
		{last, nil, nil},
		{last, []int64{0}, []int64{0}},
		{last, []int64{last}, []int64{last}},
		{last, []int64{last - 1, 1}, []int64{last - 1, 1}},
		{last - 1, []int64{last - 1, 1}, []int64{last - 2, 0}},
		{last - 1, []int64{1 << 62, 1<<62 - 1}, []int64{1<<62 - 1, 1<<62 - 2}},
		{5, []int64{last}, []int64{5}},
		{100, []int64{1, 2, 3, 4, 5, 6, 7, 8, 9, 10, 11, 12, 13, 14, 15, 16}, []int64{0, 1, 2, 2, 3, 4, 5, 5, 6, 7, 8, 8, 9, 10, 11, 11}},
	} {
		if l, err := Cut(x.water, x.outs); err != api.OK || !slices.Equal(l, x.want) {
			t.Errorf("Cut(%d, %v): %v, %d, want %v", x.water, x.outs, l, err, x.want)
		}
	}
}

// P14.1: numbers that Cut refuses, and those just beside them.
func TestCutsThatAreRefused(t *testing.T) {
	for _, x := range []struct {
		water int64
		outs  []int64
	}{
		{-1, nil},
		{-1, []int64{}},
		{-1, []int64{0}},
		{first, []int64{1, 2}},
		{-1, []int64{-1}},
		{0, []int64{-1}},
		{5, []int64{first}},
		{5, []int64{-1, 1, 1}},
		{5, []int64{1, -1, 1}},
		{5, []int64{1, 1, -1}},
		{5, []int64{last, -1}}, // together they would not be too many
		{5, []int64{-1, last, 1}},
		{5, []int64{last, 1, -1}},
		{last, []int64{last, 1}},
		{last, []int64{1, last}},
		{last, []int64{1 << 62, 1 << 62}},
		{last, []int64{last, last}},
		{last, []int64{last, last, 2}},       // 2^64 comes round to 0
		{last, []int64{last, last, last, 3}}, // and here to 2^63
		{0, []int64{1 << 62, 1 << 62, 1 << 62, 1 << 62}},
		{0, []int64{0, last, 0, 1, 0}},
	} {
		if l, err := Cut(x.water, x.outs); err != api.ErrArg || len(l) != 0 {
			t.Errorf("Cut(%d, %v): %v, %d", x.water, x.outs, l, err)
		}
	}
	for _, outs := range [][]int64{{last, 0}, {0, last}, {last - 1, 1}, {1 << 62, 1<<62 - 1}} {
		if l, err := Cut(last, outs); err != api.OK || !slices.Equal(l, outs) {
			t.Errorf("Cut of %v, just at the end: %v, %d", outs, l, err)
		}
	}
}

// outs of up to 8 numbers; now and then one below 0, or so many that together they are too many.
func (p *picker) outs() []int64 {
	out := make([]int64, p.below(9))
	power := 1 + p.below(62)
	for k := range out {
		out[k] = p.sized(power)
		if p.below(64) == 0 {
			out[k] = -out[k]
		}
	}
	return out
}

// P14.1, P14.2: against the model, with what is promised of all cuts.
func TestCutAgainstTheModel(t *testing.T) {
	p := newPicker()
	whole, less, refused := 0, 0, 0
	for range 60000 {
		outs := p.outs()
		water := p.sized(63)
		if sum := modelSum(outs); p.below(2) == 0 && sum.IsInt64() && sum.Sign() > 0 {
			water = int64(p.below(sum.Uint64() + 2)) // from 0 to one more than they are
		}
		l, err := Cut(water, outs)
		want, ok := modelCut(water, outs)
		if ok != (err == api.OK) || !slices.Equal(l, want) || !ok && err != api.ErrArg {
			t.Fatalf("Cut(%d, %v): %v, %d, want %v", water, outs, l, err, want)
		}
		switch {
		case !ok:
			refused++
		case slices.Equal(l, outs):
			whole++
		default:
			less++
			asPromised(t, water, outs, l)
		}
	}
	if whole < 1000 || less < 1000 || refused < 1000 {
		t.Errorf("%d as they are, %d cut, %d refused: too few to tell anything", whole, less, refused)
	}
}

// asPromised: P14.2 of outs that had to be cut.
func asPromised(t *testing.T, water int64, outs []int64, cut []int64) {
	t.Helper()
	for k, n := range cut {
		if n < 0 || n > outs[k] {
			t.Fatalf("Cut(%d, %v): %v: one isn't from 0 to what it was", water, outs, cut)
		}
	}
	sum := modelSum(cut)
	if sum.Cmp(big.NewInt(water)) > 0 || sum.Cmp(big.NewInt(water-int64(len(outs)))) <= 0 {
		t.Fatalf("Cut(%d, %v): %v: together they are %v", water, outs, cut, sum)
	}
}

// P14.2: long lists too, the outs of which all lose by rounding.
func TestCutsOfManyOuts(t *testing.T) {
	for _, count := range []int{1, 2, 3, 100, 1000} {
		outs := same(count, 3)
		for _, water := range []int64{0, 1, 2, int64(count), 2*int64(count) + 1, 3*int64(count) - 1} {
			l, err := Cut(water, outs)
			if err != api.OK || len(l) != count {
				t.Fatalf("%d outs: %d, %d", count, len(l), err)
			}
			asPromised(t, water, outs, l)
		}
	}
}

// P14.1: cells of the net of side 1 by hand.
func TestAllByHand(t *testing.T) {
	g := made(t, 1)
	// edges 0 to 3 go from cell 0 to 1, 4, 3 and 5, edge 4 from 1 to 2
	for _, x := range []struct {
		what  string
		water []int64
		set   map[int]int64
		want  map[int]int64
	}{
		{"two flows over unlike sides", same(6, 10), map[int]int64{0: 9, 3: 6}, map[int]int64{0: 6, 3: 4}},
		{"just what there is", same(6, 15), map[int]int64{0: 9, 3: 6}, map[int]int64{0: 9, 3: 6}},
		{"one less than that", same(6, 14), map[int]int64{0: 9, 3: 6}, map[int]int64{0: 8, 3: 5}},
		{"out of both cells beside edge 0", same(6, 10), map[int]int64{0: 15, 4: 15}, map[int]int64{0: 10, 4: 10}},
		{"out of cell 1 both ways", same(6, 10), map[int]int64{0: -15, 4: 15}, map[int]int64{0: -5, 4: 5}},
		{"what comes in can't go on", []int64{10, 0, 5, 5, 5, 5}, map[int]int64{0: 8, 4: 8}, map[int]int64{0: 8, 4: 0}},
		{"what comes in doesn't cut", []int64{10, 10, 5, 5, 5, 5}, map[int]int64{0: 10, 1: -5, 2: -5, 3: -5}, map[int]int64{0: 10, 1: -5, 2: -5, 3: -5}},
		{"in and out, out cut", []int64{4, 9, 9, 9, 9, 9}, map[int]int64{0: -9, 1: 5, 2: 0, 3: 3}, map[int]int64{0: -9, 1: 2, 3: 1}},
		{"no water", same(6, 0), map[int]int64{0: most, 1: -most, 4: 1, 5: -1}, nil},
		{"MaxWater both ways", same(6, most), map[int]int64{0: most, 2: -most}, map[int]int64{0: most, 2: -most}},
		{"four of MaxWater", same(6, 4*most-1), map[int]int64{0: most, 1: most, 2: most, 3: most}, map[int]int64{0: most - 1, 1: most - 1, 2: most - 1, 3: most - 1}},
		{"and as much water", same(6, 4*most), map[int]int64{0: most, 1: most, 2: most, 3: most}, map[int]int64{0: most, 1: most, 2: most, 3: most}},
		{"more water than a sea has", same(6, last), map[int]int64{0: most, 4: -most}, map[int]int64{0: most, 4: -most}},
	} {
		flows, want := make([]int64, 12), make([]int64, 12)
		for e, n := range x.set {
			flows[e], want[e] = n, x.want[e]
		}
		if l := answered(t, g, x.water, flows); !slices.Equal(l, want) {
			t.Errorf("%s: %v, want %v", x.what, l, want)
		}
	}
}

// P14.1: each cell's four sides, one, two and all at a time, among the other cells' flows.
func TestEachSideOfEachCell(t *testing.T) {
	for _, side := range []int{1, 2, 3} {
		g := made(t, side)
		for cell := range g.Cells() {
			for chosen := range 16 {
				water, flows, want := same(g.Cells(), last), same(g.Edges(), 5), same(g.Edges(), 5)
				sum := int64(0)
				for over := range 4 {
					e, sign := g.Around(cell, over)
					flows[e], want[e] = -7*int64(sign), -7*int64(sign) // into the cell
					if chosen>>over&1 == 1 {
						flows[e] = int64(sign) * int64(10*over+13)
						sum += int64(10*over + 13)
					}
				}
				water[cell] = 11
				for over := range 4 {
					if e, sign := g.Around(cell, over); chosen>>over&1 == 1 {
						want[e] = int64(sign) * (int64(10*over+13) * 11 / sum)
					}
				}
				if l := answered(t, g, water, flows); !slices.Equal(l, want) {
					t.Fatalf("side %d, cell %d, sides %04b: %v, want %v", side, cell, chosen, l, want)
				}
			}
		}
	}
}

// P14.1, P14.3: against the model, of waters and flows of every size.
func TestAllAgainstTheModel(t *testing.T) {
	p := newPicker()
	for _, side := range []int{1, 2, 3, 4, 5, 8, api.MaxSide} {
		g := made(t, side)
		less, stay := 0, 0
		for _, power := range []uint64{1, 2, 3, 5, 8, 20, 33, 40, 51, 52} {
			for range 1 + 40/side/side {
				water, flows := p.drawn(g, power)
				l := answered(t, g, water, flows)
				if want := modelAll(g, water, flows); !slices.Equal(l, want) {
					t.Fatalf("side %d: %v of %v: %v, want %v", side, flows, water, l, want)
				}
				for e, n := range l {
					if n < min(0, flows[e]) || n > max(0, flows[e]) {
						t.Fatalf("side %d: of %d over %d there is %d", side, flows[e], e, n)
					} else if n != flows[e] {
						less++
					} else if n != 0 {
						stay++
					}
				}
				for cell, sum := range gives(g, l) {
					if sum.Cmp(big.NewInt(water[cell])) > 0 {
						t.Fatalf("side %d: cell %d has %d and gives %v", side, cell, water[cell], sum)
					}
				}
			}
		}
		if less < 50 || stay < 50 {
			t.Errorf("side %d: %d less, %d as they were: too few to tell anything", side, less, stay)
		}
	}
}

// P14.3: cut once, all flows are such that nothing more is cut.
func TestWhatIsCutStays(t *testing.T) {
	g, p := made(t, 3), newPicker()
	for range 50 {
		water, flows := p.drawn(g, 20)
		l := answered(t, g, water, flows)
		if again := answered(t, g, water, l); !slices.Equal(again, l) {
			t.Fatalf("of %v again %v", l, again)
		}
	}
}

// All faces are alike: with the cube turned the same is cut.
func TestTurnsOfTheCube(t *testing.T) {
	p := newPicker()
	for _, side := range []int{1, 2, 3, 4} {
		g := made(t, side)
		for turn := range 24 {
			water, flows := p.drawn(g, 8)
			turnedWater, turnedFlows := make([]int64, g.Cells()), make([]int64, g.Edges())
			places, signs := make([]int, g.Edges()), make([]int, g.Edges())
			for cell, n := range water {
				to, _ := cube.Turn(side, turn, cell)
				turnedWater[to] = n
			}
			for e, n := range flows {
				x, _ := g.Edge(e)
				to, q := cube.Turn(side, turn, x.Left)
				places[e], signs[e] = g.Around(to, (x.Side+q)%4)
				turnedFlows[places[e]] = n * int64(signs[e])
			}
			there := answered(t, g, turnedWater, turnedFlows)
			for e, n := range answered(t, g, water, flows) {
				if there[places[e]] != n*int64(signs[e]) {
					t.Fatalf("side %d, turn %d: over %d %d, turned %d", side, turn, e, n, there[places[e]])
				}
			}
		}
	}
}

// others: lists that are nil, too short and too long, the spare room of which would do.
func others(list []int64) [][]int64 {
	long := append(slices.Clone(list), list[0])
	return [][]int64{nil, {}, list[:1], list[:len(list)-1], list[1:], long, append(long, list...)}
}

func refused(t *testing.T, g *grid.Grid, water []int64, flows []int64, what string) {
	t.Helper()
	if l, err := All(g, water, flows); err != api.ErrArg || len(l) != 0 {
		t.Errorf("%s: %v, %d", what, l, err)
	}
}

// P14.1: each of the two lists too short and too long.
func TestListsThatDoNotFit(t *testing.T) {
	for _, side := range []int{1, 2} {
		g := made(t, side)
		water, flows := same(g.Cells(), 10), same(g.Edges(), 7)
		for _, list := range others(water) {
			refused(t, g, list, flows, "waters that don't fit")
		}
		for _, list := range others(flows) {
			refused(t, g, water, list, "flows that don't fit")
		}
		refused(t, g, nil, nil, "no lists")
		refused(t, g, flows, water, "one for the other")
		refused(t, g, water, water, "as many flows as cells")
		next := made(t, side+1)
		refused(t, g, same(next.Cells(), 10), same(next.Edges(), 7), "the lists of another net")
		answered(t, g, water, flows)
	}
}

// P14.1: water below 0, and flows beyond MaxWater, at each place.
func TestNumbersThatAreRefused(t *testing.T) {
	g := made(t, 2)
	for cell := range g.Cells() {
		for _, n := range []int64{-1, -2, -most, first} {
			water := same(g.Cells(), 10)
			water[cell] = n
			refused(t, g, water, same(g.Edges(), 7), "water below 0")
			refused(t, g, water, make([]int64, g.Edges()), "water below 0, and nothing goes")
		}
		water := same(g.Cells(), 10)
		for _, n := range []int64{0, 1, last} {
			water[cell] = n
			answered(t, g, water, same(g.Edges(), 7))
		}
	}
	for e := range g.Edges() {
		for _, n := range []int64{most + 1, -most - 1, 1 << 53, -1 << 53, 1 << 62, -1 << 62, last, -last, first} {
			flows := same(g.Edges(), 7)
			flows[e] = n
			refused(t, g, same(g.Cells(), 10), flows, "a flow beyond MaxWater")
			refused(t, g, same(g.Cells(), last), flows, "a flow beyond MaxWater, and enough water")
		}
		for _, n := range []int64{most, -most, most - 1, 1 - most} {
			flows := same(g.Edges(), 0)
			flows[e] = n
			if l := answered(t, g, same(g.Cells(), most), flows); !slices.Equal(l, flows) {
				t.Errorf("%d over %d: %v", n, e, l)
			}
		}
	}
}

// P14.1: a nil net comes ahead of all else.
func TestNilNet(t *testing.T) {
	for _, water := range [][]int64{nil, {}, same(6, 10), same(6, -1)} {
		for _, flows := range [][]int64{nil, {}, same(12, 7), same(12, first)} {
			if l, err := All(nil, water, flows); err != api.ErrNil || len(l) != 0 {
				t.Errorf("%v of %v: %v, %d", flows, water, l, err)
			}
		}
	}
}

// roomy: the list with spare room behind it that isn't empty.
func roomy(list []int64) []int64 { return append(slices.Clone(list), list...)[:len(list)] }

// spoil the list and its spare room.
func spoil(list []int64) {
	room := list[:cap(list)]
	for k := range room {
		room[k] = -7
	}
}

// P14.4: of Cut, whether it cuts or not, and of a list that is empty but for its spare room.
func TestWhatCutIsHandedStays(t *testing.T) {
	for _, water := range []int64{0, 5, 6, 100} {
		for _, count := range []int{0, 3} {
			outs := roomy([]int64{1, 2, 3})[:count]
			before := slices.Clone(outs[:cap(outs)])
			one, _ := Cut(water, outs)
			kept := slices.Clone(one)
			two, _ := Cut(water, outs)
			spoil(two)
			if !slices.Equal(one, kept) || !slices.Equal(outs[:cap(outs)], before) {
				t.Errorf("water %d: an answer shares memory: %v, %v", water, one, outs[:cap(outs)])
			}
			spoil(outs)
			if !slices.Equal(one, kept) {
				t.Errorf("water %d: the answer hangs on what was handed in: %v", water, one)
			}
		}
	}
}

// P14.4: of All.
func TestWhatAllIsHandedStays(t *testing.T) {
	g, p := made(t, 2), newPicker()
	water, flows := p.drawn(g, 8)
	for _, water := range [][]int64{roomy(water), roomy(same(g.Cells(), last)), roomy(same(g.Cells(), 0))} {
		flows := roomy(flows)
		waters, before := slices.Clone(water[:cap(water)]), slices.Clone(flows[:cap(flows)])
		one := answered(t, g, water, flows)
		kept := slices.Clone(one)
		spoil(answered(t, g, water, flows))
		if !slices.Equal(one, kept) {
			t.Error("a list that was answered has changed with a later one")
		}
		if !slices.Equal(water[:cap(water)], waters) || !slices.Equal(flows[:cap(flows)], before) {
			t.Error("what was handed in has changed")
		}
		if again := answered(t, g, water, flows); !slices.Equal(again, kept) {
			t.Error("asked again the numbers are others")
		}
		spoil(water)
		spoil(flows)
		if !slices.Equal(one, kept) {
			t.Error("the answer hangs on what was handed in")
		}
	}
}

// Calls at the same time, over the same net and lists, answer the same.
func TestCallsAtTheSameTime(t *testing.T) {
	g, p := made(t, 4), newPicker()
	water, flows := p.drawn(g, 20)
	want := answered(t, g, water, flows)
	rows := make([][]int64, 8)
	var calls sync.WaitGroup
	for k := range rows {
		calls.Go(func() { rows[k], _ = All(g, water, flows) })
	}
	calls.Wait()
	for k, l := range rows {
		if !slices.Equal(l, want) {
			t.Errorf("call %d answered other numbers", k)
		}
	}
}
