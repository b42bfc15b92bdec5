package mass

import (
	"math"
	"math/big"
	"slices"
	"sync"
	"testing"

	"tarn/api"
	"tarn/cube"
	"tarn/grid"
)

const (
	last  = math.MaxInt64
	first = math.MinInt64
)

func made(t *testing.T, side int) *grid.Grid {
	t.Helper()
	g, err := grid.New(side)
	if g == nil || err != api.OK {
		t.Fatalf("grid.New(%d) is %v, %d", side, g, err)
	}
	return g
}

// picker: numbers by a rule of its own, the same ones every time.
type picker uint64

func newPicker() *picker {
	p := picker(0x9e3779b97f4a7c15)
	return &p
}

func (p *picker) next() uint64 {
	s := uint64(*p)
	s ^= s << 13
	s ^= s >> 7
	s ^= s << 17
	*p = picker(s)
	return s
}

// below: from 0 up to ahead of n.
func (p *picker) below(n uint64) uint64 { return p.next() >> 1 % n }

// sized: from 0 on, of every size up to so many bits alike.
func (p *picker) sized(power uint64) int64 { return int64(p.next() >> (64 - power) >> p.below(power)) }

// either: of both signs, and now and then the least of all.
func (p *picker) either(power uint64) int64 {
	n := p.sized(power)
	switch p.below(16) {
	case 0:
		return -1 << power
	case 1, 2, 3, 4, 5, 6, 7:
		return -n
	}
	return n
}

func same(n int, x int64) []int64 { return slices.Repeat([]int64{x}, n) }

// set: n noughts, but for those that are named.
func set(n int, of map[int]int64) []int64 {
	l := make([]int64, n)
	for k, x := range of {
		l[k] = x
	}
	return l
}

// drawn: flows that fit g and the waters behind which they leave from nothing on, as far as there are such waters: a
// cell that would need more than an int64 has what wraps to it, and the answer should be ErrRange.
func (p *picker) drawn(g *grid.Grid, power uint64) ([]int64, []int64) {
	flows := make([]int64, g.Edges())
	for e := range flows {
		flows[e] = p.either(power)
	}
	water := make([]int64, g.Cells())
	for cell := range water {
		need := new(big.Int).Sub(big.NewInt(p.sized(63)), modelGain(g, cell, flows))
		water[cell] = int64(new(big.Int).And(need, new(big.Int).SetUint64(math.MaxUint64)).Uint64())
	}
	return water, flows
}

func answered(t *testing.T, g *grid.Grid, water []int64, flows []int64) []int64 {
	t.Helper()
	l, err := Move(g, water, flows)
	if err != api.OK || len(l) != g.Cells() {
		t.Fatalf("of the net of side %d: %d numbers, error %d", g.Side(), len(l), err)
	}
	return l
}

func refused(t *testing.T, g *grid.Grid, water []int64, flows []int64, want api.Errno, what string) {
	t.Helper()
	if l, err := Move(g, water, flows); err != want || len(l) != 0 {
		t.Errorf("%s: %v, %d", what, l, err)
	}
}

// The chapter's examples.
func TestExamples(t *testing.T) {
	g := made(t, 1)
	for k, x := range []struct {
		water []int64
		flows map[int]int64
		want  []int64
		err   api.Errno
	}{
		{[]int64{5, 0, 0, 0, 0, 0}, map[int]int64{0: 3}, []int64{2, 3, 0, 0, 0, 0}, api.OK},
		{[]int64{5, 0, 0, 0, 0, 0}, map[int]int64{0: 3, 4: 3}, []int64{2, 0, 3, 0, 0, 0}, api.OK},
		{[]int64{5, 0, 0, 0, 0, 0}, map[int]int64{0: -1}, nil, api.ErrRange},
		{[]int64{5, 0, 0, 0, 0, 0}, map[int]int64{0: 6}, nil, api.ErrRange},
		{[]int64{last, 1, 0, 0, 0, 0}, map[int]int64{0: -1}, nil, api.ErrRange},
		{[]int64{last, 1, 0, 0, 0, 0}, map[int]int64{0: last}, nil, api.ErrRange},
		{[]int64{last, 1, 0, 0, 0, 0}, map[int]int64{0: last - 1}, []int64{1, last, 0, 0, 0, 0}, api.OK},
	} {
		if l, err := Move(g, x.water, set(12, x.flows)); err != x.err || !slices.Equal(l, x.want) {
			t.Errorf("row %d: %v, %d", k, l, err)
		}
	}
	if n, err := Total([]int64{last, 1}, -1); n != last || err != api.OK {
		t.Errorf("a total that comes back: %d, %d", n, err)
	}
	if n, err := Total([]int64{last, 1}); n != 0 || err != api.ErrRange {
		t.Errorf("a total of 2^63: %d, %d", n, err)
	}
	if n, err := Total(nil); n != 0 || err != api.OK {
		t.Errorf("a total of nothing: %d, %d", n, err)
	}
	if n, err := Total([]int64{first}, -1); n != 0 || err != api.ErrRange {
		t.Errorf("a total below -2^63: %d, %d", n, err)
	}
}

// P15.1: moves of the net of side 1 by hand. Its edges 0 to 3 go from cell 0 to 1, 4, 3 and 5; 4 to 6 from 1 to 2, 4
// and 5; 7 to 9 from 2 to 3, 4 and 5; 10 and 11 from 3 to 4 and 5.
func TestMovesByHand(t *testing.T) {
	g := made(t, 1)
	for _, x := range []struct {
		what  string
		water []int64
		flows map[int]int64
		want  []int64
	}{
		{"nothing goes", []int64{1, 2, 3, 4, 5, last}, nil, []int64{1, 2, 3, 4, 5, last}},
		{"out over all four sides", []int64{10, 0, 0, 0, 0, 0}, map[int]int64{0: 1, 1: 2, 2: 3, 3: 4}, []int64{0, 1, 0, 3, 2, 4}},
		{"in over all four sides", []int64{0, 1, 0, 3, 2, 4}, map[int]int64{0: -1, 1: -2, 2: -3, 3: -4}, []int64{10, 0, 0, 0, 0, 0}},
		{"gives and takes at once", []int64{0, 9, 0, 0, 0, 0}, map[int]int64{0: -9, 1: 5, 3: 4}, []int64{0, 0, 0, 0, 5, 4}},
		{"round about a corner", make([]int64, 6), map[int]int64{0: 7, 5: 7, 1: -7}, make([]int64, 6)},
		{"down to 0", []int64{7, 0, 0, 0, 0, 0}, map[int]int64{0: 7}, []int64{0, 7, 0, 0, 0, 0}},
		{"up to the most", []int64{7, last - 7, 0, 0, 0, 0}, map[int]int64{0: 7}, []int64{0, last, 0, 0, 0, 0}},
		{"all there can be", []int64{last, 0, 0, 0, 0, 0}, map[int]int64{0: last}, []int64{0, last, 0, 0, 0, 0}},
		{"and back", []int64{0, last, 0, 0, 0, 0}, map[int]int64{0: -last}, []int64{last, 0, 0, 0, 0, 0}},
		{"water below 0, filled to 0", []int64{-5, 7, 0, 0, 0, 0}, map[int]int64{0: -5}, []int64{0, 2, 0, 0, 0, 0}},
		{"the least water, filled to 0", []int64{first, last, last, 0, last, last}, map[int]int64{0: -last, 1: -1}, []int64{0, 0, last, 0, last - 1, last}},
		{"the least water, filled to the most", []int64{first, last, 0, 0, last, 1}, map[int]int64{0: -last, 1: -last, 3: -1}, []int64{last, 0, 0, 0, 0, 0}},
		{"2^63 go over", []int64{0, last, 1, 0, 0, 0}, map[int]int64{0: first, 3: 1, 4: -1}, []int64{last, 0, 0, 0, 0, 1}},
		{"2^63 come and go", []int64{0, 0, last, 1, 0, 0}, map[int]int64{0: first, 4: first, 2: last, 7: -1}, []int64{1, 0, 0, last, 0, 0}},
		{"beyond 64 bits above, on the way", []int64{last, 0, 0, 0, last, last}, map[int]int64{0: last, 1: -last, 3: -last, 2: last}, []int64{last, last, 0, last, 0, 0}},
		{"and below", []int64{first, 0, 0, last, 2, last}, map[int]int64{0: last, 1: -2, 2: -last, 3: -last}, []int64{1, last, 0, 0, 0, 0}},
		{"all giving and taking", same(6, 5), map[int]int64{0: 5, 5: 5, 8: -5, 7: 5, 11: 5, 3: -5}, same(6, 5)},
	} {
		if l := answered(t, g, x.water, set(12, x.flows)); !slices.Equal(l, x.want) {
			t.Errorf("%s: %v, want %v", x.what, l, x.want)
		}
		if sum := modelSum(x.want); modelSum(x.water).Cmp(sum) != 0 {
			t.Errorf("%s: the row itself doesn't keep the water", x.what)
		}
	}
}

// P15.1: what a cell would have is just beyond an end, or so far that it would wrap to a number that could be.
func TestMovesThatAreRefused(t *testing.T) {
	g := made(t, 1)
	for _, x := range []struct {
		what  string
		water []int64
		flows map[int]int64
	}{
		{"one more than it has", []int64{7, 0, 0, 0, 0, 0}, map[int]int64{0: 8}},
		{"one more over two sides", []int64{7, 0, 0, 0, 0, 0}, map[int]int64{0: 4, 1: 4}},
		{"one more than it has, by its Right", []int64{0, 7, 0, 0, 0, 0}, map[int]int64{0: -8}},
		{"one above the most", []int64{7, last - 6, 0, 0, 0, 0}, map[int]int64{0: 7}},
		{"one above the most, by its Left", []int64{last - 6, 7, 0, 0, 0, 0}, map[int]int64{0: -7}},
		{"water below 0 that stays so", []int64{0, 0, 0, 0, 0, -1}, nil},
		{"the least water that stays so", []int64{first, 0, 0, 0, 0, 0}, nil},
		{"water below 0, filled to -1", []int64{-5, 7, 0, 0, 0, 0}, map[int]int64{0: -4}},
		{"2^63 of nothing", make([]int64, 6), map[int]int64{0: first}},
		{"2^63 come into nothing", []int64{0, last, 1, 0, 0, 0}, map[int]int64{0: first, 4: -1}},
		{"2^63 go out of 2^63 - 1", []int64{-1, last, 0, 0, 0, 0}, map[int]int64{0: first}},
		{"2^64 come round to 0", []int64{last, 0, 0, 2, last, 0}, map[int]int64{1: -last, 2: -2}},
		{"2^64 + 1 come round to 1", []int64{last, 0, 0, 3, last, 0}, map[int]int64{1: -last, 2: -3}},
		{"-2^64 comes round to 0", []int64{first, 0, 0, 0, 0, 0}, map[int]int64{0: last, 1: 1}},
		{"1 - 2^64 comes round to 1", []int64{first + 1, 0, 0, 0, 0, 0}, map[int]int64{0: last, 1: 1}},
		{"-2^63 - 1 comes round to the most", []int64{first, 0, 0, 0, 0, 0}, map[int]int64{0: 1}},
		{"five times the most come round to 2^63 - 5", []int64{last, last, 0, last, last, last}, map[int]int64{0: -last, 1: -last, 2: -last, 3: -last}},
		{"2^65 come round to 0", same(6, 0), map[int]int64{0: first, 1: first, 2: first, 3: first}},
		{"the last cell", []int64{0, 0, 0, 9, 0, 0}, map[int]int64{11: -1}},
		{"the last cell, above", []int64{0, 0, 0, 9, 0, last}, map[int]int64{11: 1}},
	} {
		refused(t, g, x.water, set(12, x.flows), api.ErrRange, x.what)
		if _, ok := modelMove(g, x.water, set(12, x.flows)); ok {
			t.Errorf("%s: the model takes it", x.what)
		}
	}
}

// P15.1: over each side of each cell, just all that it has and one more; just all that it can take and one more.
func TestEachSideOfEachCell(t *testing.T) {
	for _, side := range []int{1, 2, 3} {
		g := made(t, side)
		for cell := range g.Cells() {
			for over := range 4 {
				e, sign := g.Around(cell, over)
				beside, _ := cube.Beside(side, cell, over)
				water, want := same(g.Cells(), 10), same(g.Cells(), 10)
				want[cell], want[beside] = 0, 20
				flows := set(g.Edges(), map[int]int64{e: 10 * int64(sign)})
				if l := answered(t, g, water, flows); !slices.Equal(l, want) {
					t.Fatalf("side %d, out of %d over %d: %v", side, cell, over, l)
				}
				flows[e] = 11 * int64(sign)
				refused(t, g, water, flows, api.ErrRange, "one more than it has")

				water[cell], want[cell], want[beside] = last-10, last, 0
				flows[e] = -10 * int64(sign)
				if l := answered(t, g, water, flows); !slices.Equal(l, want) {
					t.Fatalf("side %d, into %d over %d: %v", side, cell, over, l)
				}
				water[cell]++
				refused(t, g, water, flows, api.ErrRange, "one more than it can take")
			}
		}
	}
}

// P15.1, P15.3: against the model, of waters and flows of every size; all of it is as much as before.
func TestMoveAgainstTheModel(t *testing.T) {
	p := newPicker()
	for _, side := range []int{1, 2, 3, 4, 5, 8, api.MaxSide} {
		g := made(t, side)
		moved, not := 0, 0
		for _, power := range []uint64{1, 2, 5, 20, 33, 52, 60, 61, 62, 63} {
			for range 1 + 300/side/side {
				water, flows := p.drawn(g, power)
				if p.below(4) == 0 {
					water[p.below(uint64(g.Cells()))] = p.either(63)
				}
				l, err := Move(g, water, flows)
				want, ok := modelMove(g, water, flows)
				if ok != (err == api.OK) || !slices.Equal(l, want) || !ok && err != api.ErrRange {
					t.Fatalf("side %d: %v over %v: %v, %d, want %v", side, water, flows, l, err, want)
				}
				if !ok {
					not++
					continue
				}
				moved++
				if modelSum(l).Cmp(modelSum(water)) != 0 {
					t.Fatalf("side %d: %v of %v: it isn't as much as before", side, l, water)
				}
			}
		}
		if moved < 4 || not < 3 {
			t.Errorf("side %d: %d moved, %d not: too few to tell anything", side, moved, not)
		}
	}
}

// P15.3: moved there and back it is what it was.
func TestThereAndBack(t *testing.T) {
	g, p := made(t, 4), newPicker()
	for range 100 {
		flows, water := make([]int64, g.Edges()), make([]int64, g.Cells())
		for e := range flows {
			flows[e] = p.sized(50) * (int64(p.below(3)) - 1)
		}
		for cell := range water {
			water[cell] = 1<<53 + p.sized(60)
		}
		there := answered(t, g, water, flows)
		for e := range flows {
			flows[e] = -flows[e]
		}
		if back := answered(t, g, there, flows); slices.Equal(there, water) || !slices.Equal(back, water) {
			t.Fatalf("%v, there %v, and back %v", water, there, back)
		}
	}
}

// All faces are alike: with the cube turned the same moves.
func TestTurnsOfTheCube(t *testing.T) {
	p := newPicker()
	for _, side := range []int{1, 2, 3, 4} {
		g := made(t, side)
		for turn := range 24 {
			water, flows := p.drawn(g, 20)
			for cell := range water {
				water[cell] = 1<<22 + p.sized(40)
			}
			turnedFlows := make([]int64, g.Edges())
			for e, n := range flows {
				x, _ := g.Edge(e)
				to, q := cube.Turn(side, turn, x.Left)
				place, sign := g.Around(to, (x.Side+q)%4)
				turnedFlows[place] = n * int64(sign)
			}
			there := answered(t, g, turned(side, turn, water), turnedFlows)
			if here := answered(t, g, water, flows); !slices.Equal(turned(side, turn, here), there) {
				t.Fatalf("side %d, turn %d: %v, turned %v", side, turn, here, there)
			}
		}
	}
}

func turned(side int, turn int, water []int64) []int64 {
	out := make([]int64, len(water))
	for cell, n := range water {
		to, _ := cube.Turn(side, turn, cell)
		out[to] = n
	}
	return out
}

// others: lists that are nil, too short and too long, the spare room of which would do.
func others(list []int64) [][]int64 {
	long := append(slices.Clone(list), list[0])
	return [][]int64{nil, {}, list[:1], list[:len(list)-1], list[1:], long, append(long, list...)}
}

// P15.1: each of the two lists too short and too long, also with numbers that would be ErrRange.
func TestListsThatDoNotFit(t *testing.T) {
	for _, side := range []int{1, 2} {
		g := made(t, side)
		for _, has := range []int64{10, -1} {
			water, flows := same(g.Cells(), has), same(g.Edges(), 0)
			for _, list := range others(water) {
				refused(t, g, list, flows, api.ErrArg, "waters that don't fit")
			}
			for _, list := range others(flows) {
				refused(t, g, water, list, api.ErrArg, "flows that don't fit")
			}
			refused(t, g, nil, nil, api.ErrArg, "no lists")
			refused(t, g, flows, water, api.ErrArg, "one for the other")
			refused(t, g, water, water, api.ErrArg, "as many flows as cells")
			refused(t, g, flows, flows, api.ErrArg, "as many waters as edges")
			next := made(t, side+1)
			refused(t, g, same(next.Cells(), has), same(next.Edges(), 0), api.ErrArg, "the lists of another net")
		}
		answered(t, g, same(g.Cells(), 10), same(g.Edges(), 0))
	}
}

// P15.1: a nil net comes ahead of all else.
func TestNilNet(t *testing.T) {
	for _, water := range [][]int64{nil, {}, same(6, 10), same(6, -1)} {
		for _, flows := range [][]int64{nil, {}, same(12, 0), same(12, first)} {
			refused(t, nil, water, flows, api.ErrNil, "a nil net")
		}
	}
}

// P15.2: totals at both ends and beyond, of nothing, of water alone, of more alone, of sums that wrap.
func TestTotalsByHand(t *testing.T) {
	for _, x := range []struct {
		water, more []int64
		want        int64
		err         api.Errno
	}{
		{nil, nil, 0, api.OK},
		{[]int64{}, []int64{}, 0, api.OK},
		{[]int64{0, 0}, []int64{0}, 0, api.OK},
		{[]int64{1, 2, 3}, nil, 6, api.OK},
		{nil, []int64{1, 2, 3}, 6, api.OK},
		{[]int64{1, 2, 3}, []int64{10, 20}, 36, api.OK},
		{[]int64{5}, []int64{-7}, -2, api.OK},
		{[]int64{last}, nil, last, api.OK},
		{nil, []int64{last}, last, api.OK},
		{[]int64{last}, []int64{0}, last, api.OK},
		{[]int64{last - 1, 1}, nil, last, api.OK},
		{[]int64{last - 1}, []int64{1}, last, api.OK},
		{[]int64{last}, []int64{1}, 0, api.ErrRange},
		{[]int64{last, 1}, nil, 0, api.ErrRange},
		{nil, []int64{1, last}, 0, api.ErrRange},
		{[]int64{first}, nil, first, api.OK},
		{nil, []int64{first}, first, api.OK},
		{[]int64{first + 1}, []int64{-1}, first, api.OK},
		{[]int64{first, -1}, nil, 0, api.ErrRange},
		{[]int64{-1}, []int64{first}, 0, api.ErrRange},
		{[]int64{last, first}, nil, -1, api.OK},
		{[]int64{last, last}, []int64{first, first}, -2, api.OK},
		{[]int64{first, first}, []int64{last, last, 2}, 0, api.OK},
		{[]int64{last, last, last, last}, []int64{first, first, first}, last - 3, api.OK},
		{[]int64{last, last, 2}, nil, 0, api.ErrRange},         // 2^64 would come round to 0
		{[]int64{last, last}, []int64{3}, 0, api.ErrRange},     // and this to 1
		{[]int64{first, first}, nil, 0, api.ErrRange},          // -2^64
		{[]int64{first}, []int64{first, 1}, 0, api.ErrRange},   // 1 - 2^64
		{[]int64{first, -1, 0}, nil, 0, api.ErrRange},          // -2^63 - 1
		{[]int64{first, first, first}, nil, 0, api.ErrRange},   // -3 * 2^63
		{same(5, last), nil, 0, api.ErrRange},                  // would come round to 2^63 - 5
		{same(1000, last), same(1000, first), -1000, api.OK},   // far beyond 64 bits on the way
		{same(1000, first), same(1000, last), -1000, api.OK},   // and below
		{same(1000, first), same(1002, last), 0, api.ErrRange}, // 2^64 - 1002
		{same(1000, first), same(1001, last), last - 1000, api.OK},
	} {
		if n, err := Total(x.water, x.more...); n != x.want || err != x.err {
			t.Errorf("%v and %v: %d, %d, want %d, %d", x.water, x.more, n, err, x.want, x.err)
		}
	}
}

// P15.2: against the model, wherever the list is parted in two.
func TestTotalAgainstTheModel(t *testing.T) {
	p := newPicker()
	fit, not := 0, 0
	for range 20000 {
		list := make([]int64, p.below(9))
		power := 1 + p.below(63)
		for k := range list {
			list[k] = p.either(power)
			if p.below(4) == 0 {
				list[k] = int64(p.next()) // great, of either sign
			}
		}
		want := modelSum(list)
		for cut := range len(list) + 1 {
			n, err := Total(list[:cut], list[cut:]...)
			switch {
			case want.IsInt64():
				fit++
				if err != api.OK || n != want.Int64() {
					t.Fatalf("%v and %v: %d, %d, want %v", list[:cut], list[cut:], n, err, want)
				}
			default:
				not++
				if err != api.ErrRange || n != 0 {
					t.Fatalf("%v and %v: %d, %d, want an error", list[:cut], list[cut:], n, err)
				}
			}
		}
	}
	if fit < 1000 || not < 1000 {
		t.Errorf("%d totals, %d that don't fit: too few to tell anything", fit, not)
	}
}

// roomy: the list with spare room behind it that isn't empty.
func roomy(list []int64) []int64 { return append(slices.Clone(list), list...)[:len(list)] }

// spoil the list and its spare room.
func spoil(list []int64) {
	room := list[:cap(list)]
	for k := range room {
		room[k] = -7
	}
}

// P15.4: of Move, whether anything goes or not.
func TestWhatMoveIsHandedStays(t *testing.T) {
	g := made(t, 2)
	for _, flow := range []int64{0, 1, -1} {
		water, flows := roomy(same(g.Cells(), 10)), roomy(same(g.Edges(), flow))
		waters, before := slices.Clone(water[:cap(water)]), slices.Clone(flows[:cap(flows)])
		one := answered(t, g, water, flows)
		kept := slices.Clone(one)
		spoil(answered(t, g, water, flows))
		if !slices.Equal(one, kept) {
			t.Error("a list that was answered has changed with a later one")
		}
		if !slices.Equal(water[:cap(water)], waters) || !slices.Equal(flows[:cap(flows)], before) {
			t.Error("what was handed in has changed")
		}
		if again := answered(t, g, water, flows); !slices.Equal(again, kept) {
			t.Error("asked again the numbers are others")
		}
		spoil(water)
		spoil(flows)
		if !slices.Equal(one, kept) {
			t.Error("the answer hangs on what was handed in")
		}
	}
}

// P15.4: a move that is refused changes nothing either, nor does a total.
func TestWhatElseIsHandedStays(t *testing.T) {
	g := made(t, 1)
	water, flows := roomy(same(6, 1)), roomy(same(12, 1))
	refused(t, g, water, flows, api.ErrRange, "cell 0 gives 4 of 1")
	for _, list := range [][]int64{water, flows} {
		if n, err := Total(list, list...); n != 2*int64(len(list)) || err != api.OK {
			t.Errorf("the total of twice %v: %d, %d", list, n, err)
		}
		if n, err := Total(list[:1], list[1:]...); n != int64(len(list)) || err != api.OK {
			t.Errorf("the total of %v in two: %d, %d", list, n, err)
		}
	}
	if !slices.Equal(water[:cap(water)], same(12, 1)) || !slices.Equal(flows[:cap(flows)], same(24, 1)) {
		t.Error("what was handed in has changed")
	}
}

// Calls at the same time, over the same net and lists, answer the same.
func TestCallsAtTheSameTime(t *testing.T) {
	g, p := made(t, 4), newPicker()
	water, flows := p.drawn(g, 40)
	want := answered(t, g, water, flows)
	all, err := Total(want[:1], 1)
	rows, totals := make([][]int64, 8), make([]int64, 8)
	var calls sync.WaitGroup
	for k := range rows {
		calls.Go(func() {
			rows[k], _ = Move(g, water, flows)
			totals[k], _ = Total(rows[k][:1], 1)
		})
	}
	calls.Wait()
	for k, l := range rows {
		if !slices.Equal(l, want) || totals[k] != all || err != api.OK {
			t.Errorf("call %d answered other numbers", k)
		}
	}
}
