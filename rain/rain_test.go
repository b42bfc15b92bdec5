package rain

import (
	"math"
	"math/big"
	"slices"
	"sync"
	"testing"

	"tarn/api"
)

const (
	last  = math.MaxInt64
	first = math.MinInt64
	most  = 1 << 52
	rains = 1024 // as many as there may be
)

// picker: numbers by a rule of its own, the same ones every time.
type picker uint64

func newPicker() *picker {
	p := picker(0x9e3779b97f4a7c15)
	return &p
}

func (p *picker) next() uint64 {
	s := uint64(*p)
	s ^= s << 13
	s ^= s >> 7
	s ^= s << 17
	*p = picker(s)
	return s
}

// below: from 0 up to ahead of n.
func (p *picker) below(n uint64) uint64 { return p.next() >> 1 % n }

// sized: from 0 on, of every size up to so many bits alike.
func (p *picker) sized(power uint64) int64 { return int64(p.next() >> (64 - power) >> p.below(power)) }

// water that can be, 0 and the most among it.
func (p *picker) water(power uint64) int64 {
	switch p.below(8) {
	case 0:
		return 0
	case 1:
		return most
	}
	return p.sized(power)
}

// rain that can be in a sea of so many cells; it falls in step 5, or begins or ends about it.
func (p *picker) rain(cells int, power uint64) api.Rain {
	r := api.Rain{Cell: int(p.below(uint64(cells))), Amount: p.water(power), From: int(p.below(7))}
	if p.below(2) == 0 {
		r.Amount = -r.Amount
	}
	r.To = r.From + int(p.below(7))
	return r
}

func same(n int, x int64) []int64 { return slices.Repeat([]int64{x}, n) }

func many(n int, r api.Rain) []api.Rain { return slices.Repeat([]api.Rain{r}, n) }

func of(cell int, amount int64, from int, to int) api.Rain {
	return api.Rain{Cell: cell, Amount: amount, From: from, To: to}
}

// now: a rain of the steps from 0 up to ahead of 1.
func now(cell int, amount int64) api.Rain { return of(cell, amount, 0, 1) }

func answered(t *testing.T, water []int64, sky int64, list []api.Rain, step int) ([]int64, int64) {
	t.Helper()
	l, left, err := Fall(water, sky, list, step)
	if err != api.OK || len(l) != len(water) {
		t.Fatalf("Fall(%v, %d, %v, %d): %v, %d, %d", water, sky, list, step, l, left, err)
	}
	return l, left
}

func refused(t *testing.T, what string, water []int64, sky int64, list []api.Rain, step int) {
	t.Helper()
	if l, left, err := Fall(water, sky, list, step); err != api.ErrArg || left != 0 || len(l) != 0 {
		t.Errorf("%s: %v, %d, %d", what, l, left, err)
	}
	if modelTakes(water, sky, list, step) {
		t.Errorf("%s: the model takes it", what)
	}
}

// The chapter's examples.
func TestExamples(t *testing.T) {
	if !Valid(6, api.Rain{Cell: 5, Amount: -3}) {
		t.Error("Cell 5 of 6")
	}
	for _, r := range []api.Rain{{Cell: 6, Amount: -3}, {Cell: -1, Amount: -3}, {Cell: 5, Amount: 1<<52 + 1}, {Cell: 5, Amount: -3, From: -1}, {Cell: 5, Amount: -3, From: 3, To: 2}} {
		if Valid(6, r) {
			t.Error(r)
		}
	}
	for _, x := range []struct {
		water []int64
		sky   int64
		rains []api.Rain
		step  int
		want  []int64
		left  int64
		err   api.Errno
	}{
		{[]int64{1, 2}, 10, []api.Rain{of(0, 4, 0, 5)}, 0, []int64{5, 2}, 6, api.OK},
		{[]int64{1, 2}, 10, []api.Rain{of(0, 4, 0, 5)}, 4, []int64{5, 2}, 6, api.OK},
		{[]int64{1, 2}, 10, []api.Rain{of(0, 4, 0, 5)}, 5, []int64{1, 2}, 10, api.OK},
		{[]int64{1, 2}, 3, []api.Rain{of(0, 4, 0, 5), of(1, 4, 0, 5)}, 0, []int64{4, 2}, 0, api.OK},
		{[]int64{1, 2}, 0, []api.Rain{of(1, -5, 0, 1), of(0, 1, 0, 1)}, 0, []int64{2, 0}, 1, api.OK},
		{[]int64{1, 2}, 0, []api.Rain{of(0, 1, 0, 1), of(1, -5, 0, 1)}, 0, []int64{1, 0}, 2, api.OK},
		{[]int64{1}, 0, nil, -1, nil, 0, api.ErrArg},
		{[]int64{-1}, 0, nil, 0, nil, 0, api.ErrArg},
		{[]int64{1}, 1<<52 + 1, nil, 0, nil, 0, api.ErrArg},
		{[]int64{1}, 0, []api.Rain{of(1, 1, 0, 1)}, 9, nil, 0, api.ErrArg},
	} {
		if l, left, err := Fall(x.water, x.sky, x.rains, x.step); err != x.err || left != x.left || !slices.Equal(l, x.want) {
			t.Errorf("Fall of %v: %v, %d, %d", x, l, left, err)
		}
	}
}

// The document's example of the whole: 150 in the sky come down in two steps, 100 and then what is left.
func TestTwoSteps(t *testing.T) {
	list := []api.Rain{{Cell: 3, Amount: 100, To: 2}}
	water, sky := answered(t, make([]int64, 6), 150, list, 0)
	if sky != 50 || !slices.Equal(water, []int64{0, 0, 0, 100, 0, 0}) {
		t.Errorf("behind a step: %v, %d", water, sky)
	}
	water, sky = answered(t, water, sky, list, 1)
	if sky != 0 || !slices.Equal(water, []int64{0, 0, 0, 150, 0, 0}) {
		t.Errorf("behind two: %v, %d", water, sky)
	}
	water, sky = answered(t, water, sky, list, 2)
	if sky != 0 || !slices.Equal(water, []int64{0, 0, 0, 150, 0, 0}) {
		t.Errorf("behind three: %v, %d", water, sky)
	}
}

// P18.1: each number of a rain at its edges.
func TestValidByHand(t *testing.T) {
	for _, x := range []struct {
		cells int
		r     api.Rain
		want  bool
	}{
		{6, api.Rain{}, true},
		{6, api.Rain{Cell: 5}, true},
		{6, api.Rain{Cell: 6}, false},
		{6, api.Rain{Cell: 7}, false},
		{6, api.Rain{Cell: last}, false},
		{6, api.Rain{Cell: -1}, false},
		{6, api.Rain{Cell: first}, false},
		{1, api.Rain{}, true},
		{1, api.Rain{Cell: 1}, false},
		{6144, api.Rain{Cell: 6143}, true},
		{6144, api.Rain{Cell: 6144}, false},
		{last, api.Rain{Cell: last - 1}, true},
		{last, api.Rain{Cell: last}, false},
		{0, api.Rain{}, false},
		{0, api.Rain{Cell: -1}, false},
		{-1, api.Rain{}, false},
		{-1, api.Rain{Cell: -2}, false},
		{-5, api.Rain{Cell: -6}, false},
		{first, api.Rain{}, false},
		{first, api.Rain{Cell: first}, false},
		{first, api.Rain{Cell: last}, false},
		{6, api.Rain{Amount: 1}, true},
		{6, api.Rain{Amount: -1}, true},
		{6, api.Rain{Amount: most}, true},
		{6, api.Rain{Amount: most + 1}, false},
		{6, api.Rain{Amount: last}, false},
		{6, api.Rain{Amount: -most}, true},
		{6, api.Rain{Amount: -most - 1}, false},
		{6, api.Rain{Amount: -last}, false},
		{6, api.Rain{Amount: first}, false},
		{6, api.Rain{From: 0, To: 1}, true},
		{6, api.Rain{From: -1, To: 1}, false},
		{6, api.Rain{From: -1, To: 0}, false},
		{6, api.Rain{From: -1, To: -1}, false},
		{6, api.Rain{From: first, To: last}, false},
		{6, api.Rain{From: first, To: first}, false},
		{6, api.Rain{From: 0, To: -1}, false},
		{6, api.Rain{From: 0, To: first}, false},
		{6, api.Rain{From: 3, To: 3}, true},
		{6, api.Rain{From: 3, To: 4}, true},
		{6, api.Rain{From: 3, To: 2}, false},
		{6, api.Rain{From: 3, To: 0}, false},
		{6, api.Rain{From: 3, To: first}, false},
		{6, api.Rain{From: 0, To: last}, true},
		{6, api.Rain{From: last, To: last}, true},
		{6, api.Rain{From: last, To: last - 1}, false},
		{6, api.Rain{From: last - 1, To: last}, true},
		{6, api.Rain{Cell: 5, Amount: -most, From: last, To: last}, true},
	} {
		if got := Valid(x.cells, x.r); got != x.want || modelValid(x.cells, x.r) != x.want {
			t.Errorf("Valid(%d, %v) is %v, by the model %v", x.cells, x.r, got, modelValid(x.cells, x.r))
		}
	}
}

// P18.1: all that can be made of numbers about which something turns.
func TestValidOfEdges(t *testing.T) {
	whole := []int{first, first + 1, -2, -1, 0, 1, 2, 3, 6, last - 1, last}
	amounts := []int64{first, first + 1, -most - 1, -most, 1 - most, -1, 0, 1, most - 1, most, most + 1, last}
	for _, cells := range whole {
		for _, cell := range whole {
			for _, amount := range amounts {
				for _, from := range whole {
					for _, to := range whole {
						r := api.Rain{Cell: cell, Amount: amount, From: from, To: to}
						if got := Valid(cells, r); got != modelValid(cells, r) {
							t.Fatalf("Valid(%d, %v) is %v", cells, r, got)
						}
					}
				}
			}
		}
	}
}

type fallCase struct {
	what  string
	water []int64
	sky   int64
	rains []api.Rain
	step  int
	want  []int64
	left  int64
}

func (x fallCase) hold(t *testing.T) {
	t.Helper()
	if l, left := answered(t, x.water, x.sky, x.rains, x.step); left != x.left || !slices.Equal(l, x.want) {
		t.Errorf("%s: Fall(%v, %d, %v, %d): %v, %d", x.what, x.water, x.sky, x.rains, x.step, l, left)
	}
}

// P18.2: one rain, by what there is of what it asks for.
func TestOneRain(t *testing.T) {
	for _, x := range []fallCase{
		{"the sky has more", []int64{1, 2}, 5, []api.Rain{now(1, 4)}, 0, []int64{1, 6}, 1},
		{"the sky has just as much", []int64{1, 2}, 4, []api.Rain{now(1, 4)}, 0, []int64{1, 6}, 0},
		{"the sky has one less", []int64{1, 2}, 3, []api.Rain{now(1, 4)}, 0, []int64{1, 5}, 0},
		{"the sky has one", []int64{1, 2}, 1, []api.Rain{now(1, 4)}, 0, []int64{1, 3}, 0},
		{"the sky has nothing", []int64{1, 2}, 0, []api.Rain{now(1, 4)}, 0, []int64{1, 2}, 0},
		{"down into an empty cell", []int64{0, 2}, 5, []api.Rain{now(0, 4)}, 0, []int64{4, 2}, 1},
		{"one down", []int64{1, 2}, 5, []api.Rain{now(0, 1)}, 0, []int64{2, 2}, 4},
		{"the cell has more", []int64{1, 5}, 7, []api.Rain{now(1, -4)}, 0, []int64{1, 1}, 11},
		{"the cell has just as much", []int64{1, 4}, 7, []api.Rain{now(1, -4)}, 0, []int64{1, 0}, 11},
		{"the cell has one less", []int64{1, 3}, 7, []api.Rain{now(1, -4)}, 0, []int64{1, 0}, 10},
		{"the cell has one", []int64{5, 1}, 7, []api.Rain{now(1, -4)}, 0, []int64{5, 0}, 8},
		{"the cell has nothing", []int64{5, 0}, 7, []api.Rain{now(1, -4)}, 0, []int64{5, 0}, 7},
		{"up into an empty sky", []int64{5, 0}, 0, []api.Rain{now(0, -4)}, 0, []int64{1, 0}, 4},
		{"one up", []int64{5, 1}, 7, []api.Rain{now(0, -1)}, 0, []int64{4, 1}, 8},
		{"nothing goes", []int64{5, 1}, 7, []api.Rain{now(0, 0)}, 0, []int64{5, 1}, 7},
		{"nothing goes, and nothing is there", []int64{0}, 0, []api.Rain{now(0, 0)}, 0, []int64{0}, 0},
		{"the most comes down", []int64{0, 3}, most, []api.Rain{now(0, most)}, 0, []int64{most, 3}, 0},
		{"one less than the most comes down", []int64{0}, most, []api.Rain{now(0, most-1)}, 0, []int64{most - 1}, 1},
		{"the most asked for, one less there", []int64{0}, most - 1, []api.Rain{now(0, most)}, 0, []int64{most - 1}, 0},
		{"the most into the most", []int64{most}, most, []api.Rain{now(0, most)}, 0, []int64{2 * most}, 0},
		{"the most goes up", []int64{most, 3}, 0, []api.Rain{now(0, -most)}, 0, []int64{0, 3}, most},
		{"one less than the most goes up", []int64{most}, 0, []api.Rain{now(0, 1-most)}, 0, []int64{1}, most - 1},
		{"the most asked of the cell, one less there", []int64{most - 1}, 0, []api.Rain{now(0, -most)}, 0, []int64{0}, most - 1},
		{"the most up to the most", []int64{most}, most, []api.Rain{now(0, -most)}, 0, []int64{0}, 2 * most},
	} {
		x.hold(t)
	}
}

// P18.2: several rains, each of what those ahead of it left.
func TestRainsInTheirOrder(t *testing.T) {
	for _, x := range []fallCase{
		{"the first takes all of the sky", []int64{0, 0}, 4, []api.Rain{now(0, 4), now(1, 4)}, 0, []int64{4, 0}, 0},
		{"the other first", []int64{0, 0}, 4, []api.Rain{now(1, 4), now(0, 4)}, 0, []int64{0, 4}, 0},
		{"the second gets what is left", []int64{0, 0}, 6, []api.Rain{now(0, 4), now(1, 4)}, 0, []int64{4, 2}, 0},
		{"one cell twice", []int64{1, 0}, 9, []api.Rain{now(0, 4), now(0, 4)}, 0, []int64{9, 0}, 1},
		{"one cell twice, not enough", []int64{1, 0}, 7, []api.Rain{now(0, 4), now(0, 4)}, 0, []int64{8, 0}, 0},
		{"one cell gives twice", []int64{9, 0}, 1, []api.Rain{now(0, -4), now(0, -4)}, 0, []int64{1, 0}, 9},
		{"one cell gives twice, not enough", []int64{7, 0}, 1, []api.Rain{now(0, -4), now(0, -4)}, 0, []int64{0, 0}, 8},
		{"down, then up", []int64{0}, 3, []api.Rain{now(0, 5), now(0, -2)}, 0, []int64{1}, 2},
		{"up, then down", []int64{0}, 3, []api.Rain{now(0, -2), now(0, 5)}, 0, []int64{3}, 0},
		{"up all, then down all", []int64{4}, 3, []api.Rain{now(0, -9), now(0, 9)}, 0, []int64{7}, 0},
		{"down all, then up all", []int64{4}, 3, []api.Rain{now(0, 9), now(0, -9)}, 0, []int64{0}, 7},
		{"up, down, up", []int64{5}, 0, []api.Rain{now(0, -4), now(0, 3), now(0, -1)}, 0, []int64{3}, 2},
		{"down, up, down", []int64{1}, 4, []api.Rain{now(0, 2), now(0, -5), now(0, 4)}, 0, []int64{4}, 1},
		{"from cell to cell by the sky", []int64{5, 0, 0}, 0, []api.Rain{now(0, -5), now(1, 3), now(2, 3)}, 0, []int64{0, 3, 2}, 0},
		{"nothing between", []int64{5, 0}, 0, []api.Rain{now(0, -5), now(1, 0), now(1, 5)}, 0, []int64{0, 5}, 0},
		{"one between that doesn't fall", []int64{5, 0}, 0, []api.Rain{now(0, -5), {Cell: 0, Amount: 5, From: 1, To: 9}, now(1, 5)}, 0, []int64{0, 5}, 0},
		{"just two of four", []int64{9, 9}, 9, []api.Rain{of(0, 1, 0, 5), of(0, 2, 5, 9), of(1, -4, 4, 6), of(1, -8, 6, 9)}, 5, []int64{11, 5}, 11},
	} {
		x.hold(t)
	}
}

// P18.2: in which steps a rain falls.
func TestStepsOfARain(t *testing.T) {
	for _, x := range []struct {
		from, to, step int
		want           bool
	}{
		{0, 1, 0, true},
		{0, 1, 1, false},
		{0, 0, 0, false},
		{3, 5, 0, false},
		{3, 5, 2, false},
		{3, 5, 3, true},
		{3, 5, 4, true},
		{3, 5, 5, false},
		{3, 5, 6, false},
		{3, 5, last, false},
		{3, 3, 2, false},
		{3, 3, 3, false},
		{3, 3, 4, false},
		{0, last, 0, true},
		{0, last, api.MaxStep, true},
		{0, last, last - 1, true},
		{0, last, last, false},
		{last, last, last, false},
		{last - 1, last, last - 1, true},
		{last - 1, last, last - 2, false},
	} {
		for _, amount := range []int64{4, -4, 0} {
			r := api.Rain{Cell: 0, Amount: amount, From: x.from, To: x.to}
			want, left := int64(10), int64(20)
			if x.want {
				want, left = want+amount, left-amount
			}
			fallCase{"the steps of a rain", []int64{10}, 20, []api.Rain{r}, x.step, []int64{want}, left}.hold(t)
		}
	}
}

// P18.2: lists that hold nothing.
func TestNothingInLists(t *testing.T) {
	for _, none := range [][]api.Rain{nil, {}} {
		fallCase{"no rains", []int64{1, 2}, 3, none, 0, []int64{1, 2}, 3}.hold(t)
		for _, cells := range [][]int64{nil, {}} {
			for _, sky := range []int64{0, 1, most} {
				fallCase{"no cells, no rains", cells, sky, none, 7, nil, sky}.hold(t)
			}
			for _, sky := range []int64{-1, most + 1} {
				refused(t, "no cells, no rains, another sky", cells, sky, none, 0)
			}
			refused(t, "no cells, no rains, no step", cells, 5, none, -1)
		}
	}
	for _, cells := range [][]int64{nil, {}, make([]int64, 0, 6)} {
		refused(t, "a rain and no cells", cells, 5, many(1, api.Rain{}), 0)
		refused(t, "a rain and no cells, in another step", cells, 5, many(1, now(0, 1)), 9)
	}
}

// P18.2: a step, a sky, or one of the waters that isn't as it should be.
func TestNumbersThatAreRefused(t *testing.T) {
	list := []api.Rain{now(0, 1)}
	for _, step := range []int{-1, -2, first} {
		refused(t, "a step below 0", same(3, 5), 5, nil, step)
		refused(t, "a step below 0, with a rain", same(3, 5), 5, list, step)
	}
	for _, n := range []int64{-1, -2, -most, first, most + 1, 1 << 53, 1 << 62, last} {
		refused(t, "the sky", same(3, 5), n, nil, 0)
		refused(t, "the sky, with a rain", same(3, 5), n, list, 0)
		for cell := range 3 {
			water := same(3, 5)
			water[cell] = n
			refused(t, "the water of a cell", water, 5, nil, 0)
			refused(t, "the water of a cell, with a rain", water, 5, list, 0)
			refused(t, "the water of a cell, with a rain there", water, 5, []api.Rain{now(cell, -most), now(cell, most)}, 0)
		}
	}
	for _, n := range []int64{0, 1, most - 1, most} {
		fallCase{"a sky that can be", same(3, 5), n, nil, 0, same(3, 5), n}.hold(t)
		for cell := range 3 {
			water := same(3, 5)
			water[cell] = n
			fallCase{"water that can be", water, 5, nil, 0, slices.Clone(water), 5}.hold(t)
		}
	}
}

// P18.2: a rain that can't be is refused at each place, whether it falls in this step or not.
func TestRainsThatAreRefused(t *testing.T) {
	for _, bad := range []api.Rain{
		{Cell: 3, To: 1}, {Cell: -1, To: 1}, {Cell: first, To: 1}, {Cell: last, To: 1},
		{Amount: most + 1, To: 1}, {Amount: -most - 1, To: 1}, {Amount: first, To: 1}, {Amount: last, To: 1},
		{From: -1, To: 1}, {From: first, To: last}, {From: 1, To: 0}, {From: 0, To: -1}, {From: 4, To: 3}, {From: last, To: first},
		{Cell: 3, From: 7, To: 7}, {Cell: 3, Amount: 1, From: 7, To: 9}, {Amount: most + 1, From: 7, To: 9}, {Amount: first, From: 7, To: 7},
	} {
		for place := range 3 {
			list := many(3, now(1, 1))
			list[place] = bad
			for _, step := range []int{0, 1, 2, 8, 100, last} {
				refused(t, "a rain that can't be", same(3, 5), 5, list, step)
			}
		}
	}
}

// P18.2: as many rains as there may be, and one more, whether they fall or not.
func TestCountOfRains(t *testing.T) {
	if api.MaxRains != rains {
		t.Fatal(api.MaxRains)
	}
	for _, n := range []int{rains - 1, rains} {
		fallCase{"as many rains as may be", same(2, 0), 5000, many(n, now(1, 2)), 0, []int64{0, 2 * int64(n)}, 5000 - 2*int64(n)}.hold(t)
		fallCase{"rains that don't fall", same(2, 0), 5000, many(n, now(1, 2)), 1, same(2, 0), 5000}.hold(t)
		fallCase{"rains of nothing", same(2, 0), 5000, make([]api.Rain, n), 0, same(2, 0), 5000}.hold(t)
	}
	for _, n := range []int{rains + 1, rains + 2, 4 * rains, 1 << 20} {
		refused(t, "too many rains", same(2, 0), 5000, many(n, now(1, 2)), 0)
		refused(t, "too many rains that don't fall", same(2, 0), 5000, many(n, now(1, 2)), 1)
		refused(t, "too many rains of nothing", same(2, 0), 5000, make([]api.Rain, n), 0)
	}
}

// P18.2, P18.3: the sky and a cell may come to have far more than MaxWater; nothing wraps round.
func TestTheMostThatCanGo(t *testing.T) {
	list := make([]api.Rain, rains)
	for cell := range list {
		list[cell] = now(cell, -most)
	}
	fallCase{"all goes up", same(rains, most), most, list, 0, same(rains, 0), (rains + 1) * most}.hold(t)
	for k := rains / 2; k < rains; k++ {
		list[k] = now(0, most)
	}
	want := same(rains, most)
	for cell := range rains / 2 {
		want[cell] = 0
	}
	want[0] = rains / 2 * most
	fallCase{"half goes up, and down into one cell", same(rains, most), most, list, 0, want, most}.hold(t)
}

// keeps: P18.3 of an answer.
func keeps(t *testing.T, water []int64, sky int64, l []int64, left int64) {
	t.Helper()
	before, behind := big.NewInt(sky), big.NewInt(left)
	for cell := range water {
		before.Add(before, big.NewInt(water[cell]))
		behind.Add(behind, big.NewInt(l[cell]))
	}
	if before.Cmp(behind) != 0 {
		t.Fatalf("of %v became %v", before, behind)
	}
	if left < 0 || slices.ContainsFunc(l, func(n int64) bool { return n < 0 }) {
		t.Fatalf("less than nothing: %v, %d", l, left)
	}
}

// P18.2, P18.3: every two rains of two cells, all numbers small, each quantum by itself.
func TestSmallRains(t *testing.T) {
	var each []api.Rain
	for cell := range 2 {
		for amount := int64(-3); amount <= 3; amount++ {
			for from := range 3 {
				for to := from; to < 4; to++ {
					each = append(each, api.Rain{Cell: cell, Amount: amount, From: from, To: to})
				}
			}
		}
	}
	for _, one := range each {
		for _, two := range each {
			for sky := range int64(4) {
				for _, water := range [][]int64{{0, 0}, {1, 2}, {2, 0}, {3, 4}} {
					list := []api.Rain{one, two}
					l, left := answered(t, water, sky, list, 1)
					if want, rest := oneByOne(water, sky, list, 1); rest != left || !slices.Equal(l, want) {
						t.Fatalf("Fall(%v, %d, %v, 1): %v, %d, want %v, %d", water, sky, list, l, left, want, rest)
					}
					keeps(t, water, sky, l, left)
				}
			}
		}
	}
}

// asModel: whether Fall answers what the model does.
func asModel(t *testing.T, water []int64, sky int64, list []api.Rain, step int) {
	t.Helper()
	want, ok := modelFall(water, sky, list, step)
	if !ok {
		refused(t, "what the model refuses", water, sky, list, step)
		return
	}
	l, left := answered(t, water, sky, list, step)
	for cell, n := range append(slices.Clone(l), left) {
		if !want[cell].IsInt64() || want[cell].Int64() != n {
			t.Fatalf("Fall(%v, %d, %v, %d): %v, %d, want %v", water, sky, list, step, l, left, want)
		}
	}
	keeps(t, water, sky, l, left)
}

// P18.2, P18.3: numbers of every size against the model.
func TestRainsAgainstTheModel(t *testing.T) {
	p := newPicker()
	for _, power := range []uint64{1, 3, 8, 30, 52} {
		for range 3000 {
			water := make([]int64, 1+p.below(6))
			for cell := range water {
				water[cell] = p.water(power)
			}
			list := make([]api.Rain, p.below(12))
			for k := range list {
				list[k] = p.rain(len(water), power)
			}
			asModel(t, water, p.water(power), list, int(p.below(14)))
		}
	}
}

// P18.2, P18.3: the greatest sea and as many rains as there may be.
func TestGreatSeaAgainstTheModel(t *testing.T) {
	p := newPicker()
	for _, power := range []uint64{4, 40, 52} {
		water := make([]int64, 6*api.MaxSide*api.MaxSide)
		for cell := range water {
			water[cell] = p.water(power)
		}
		list := make([]api.Rain, rains)
		for k := range list {
			list[k] = p.rain(len(water), power)
		}
		for step := range 14 {
			asModel(t, water, p.water(power), list, step)
		}
	}
}

// P1: any numbers at all end in an answer or in ErrArg, by the model.
func TestAnyNumbers(t *testing.T) {
	p := newPicker()
	odd := []int64{first, -most - 1, -most, -1, 0, 0, 0, 1, 1, 2, 3, most, most, most + 1, last}
	pick := func() int64 { return odd[p.below(uint64(len(odd)))] }
	for range 60000 {
		water := make([]int64, p.below(3))
		for cell := range water {
			water[cell] = pick()
		}
		list := make([]api.Rain, p.below(3))
		for k := range list {
			list[k] = api.Rain{Cell: int(p.below(3)), Amount: pick(), From: int(pick()), To: int(pick())}
			if p.below(8) == 0 {
				list[k].Cell = int(pick())
			}
		}
		asModel(t, water, pick(), list, int(pick()))
	}
}

// roomy: the list with spare room behind it that isn't empty.
func roomy[T any](list []T) []T { return append(slices.Clone(list), list...)[:len(list)] }

func whole[T any](list []T) []T { return list[:cap(list)] }

// spoil the list and its spare room.
func spoil[T any](list []T, by T) {
	room := whole(list)
	for k := range room {
		room[k] = by
	}
}

// P18.4: whether rains fall or not, and of a list of waters that is empty but for its spare room.
func TestWhatIsHandedInStays(t *testing.T) {
	for _, count := range []int{3, 1, 0} {
		for _, list := range [][]api.Rain{nil, {now(0, 4)}, {now(0, -1), now(0, 9), now(0, 0)}, {{Cell: 0, Amount: 4, From: 3, To: 4}}} {
			water, list := roomy([]int64{1, 2, 3})[:count], roomy(list)
			if count == 0 {
				list = list[:0]
			}
			waters, given := slices.Clone(whole(water)), slices.Clone(whole(list))
			one, left := answered(t, water, 20, list, 0)
			kept := slices.Clone(one)
			two, _ := answered(t, water, 20, list, 0)
			spoil(two, -7)
			if !slices.Equal(one, kept) {
				t.Error("an answer has changed with a later one")
			}
			if !slices.Equal(whole(water), waters) || !slices.Equal(whole(list), given) {
				t.Errorf("what was handed in has changed: %v, %v", whole(water), whole(list))
			}
			if again, rest := answered(t, water, 20, list, 0); rest != left || !slices.Equal(again, kept) {
				t.Errorf("asked again: %v, %d", again, rest)
			}
			spoil(water, -7)
			spoil(list, api.Rain{Cell: -7})
			if !slices.Equal(one, kept) {
				t.Error("the answer hangs on what was handed in")
			}
		}
	}
}

// P18.4: of a Fall that is refused by its last rain.
func TestWhatIsRefusedStays(t *testing.T) {
	water, list := []int64{1, 2, 3}, []api.Rain{now(0, 4), now(1, -2), now(3, 1)}
	refused(t, "the last rain is beyond the cells", water, 20, list, 0)
	if !slices.Equal(water, []int64{1, 2, 3}) || !slices.Equal(list, []api.Rain{now(0, 4), now(1, -2), now(3, 1)}) {
		t.Errorf("what was handed in has changed: %v, %v", water, list)
	}
}

// Calls at the same time, over the same lists, answer the same.
func TestCallsAtTheSameTime(t *testing.T) {
	p := newPicker()
	water, list := make([]int64, 24), make([]api.Rain, 200)
	for cell := range water {
		water[cell] = p.water(20)
	}
	for k := range list {
		list[k] = p.rain(len(water), 20)
	}
	want, left := answered(t, water, 1000, list, 5)
	rows, skies := make([][]int64, 8), make([]int64, 8)
	var calls sync.WaitGroup
	for k := range rows {
		calls.Go(func() { rows[k], skies[k], _ = Fall(water, 1000, list, 5) })
	}
	calls.Wait()
	for k, l := range rows {
		if skies[k] != left || !slices.Equal(l, want) {
			t.Errorf("call %d answered other numbers", k)
		}
	}
}
