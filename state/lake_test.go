package state

import (
	"math"
	"math/big"
	"slices"
	"testing"

	"tarn/api"
	"tarn/grid"
	"tarn/level"
)

const area = 1431655765 // of each cell of the net of side 1

func netOf(t *testing.T, side int) *grid.Grid {
	t.Helper()
	g, e := grid.New(side)
	if e != api.OK {
		t.Fatalf("grid.New(%d): %d", side, e)
	}
	return g
}

func total(list []int64) *big.Int {
	sum := new(big.Int)
	for _, n := range list {
		sum.Add(sum, big.NewInt(n))
	}
	return sum
}

// lakeIs: P20.1 and P20.4 of what Lake answers over beds that can be, at a level that can be; whether it is a lake.
func lakeIs(t *testing.T, g *grid.Grid, bed []float64, height float64) (api.Sea, bool) {
	t.Helper()
	want := zero(g.Side())
	for cell, x := range bed {
		want.Bed[cell], want.Water[cell] = x, level.Fill(x, g.Area(cell), height)
	}
	s, e := Lake(g.Side(), bed, height)
	if total(want.Water).Cmp(big.NewInt(most)) > 0 {
		if e != api.ErrWater || !empty(s) {
			t.Fatalf("side %d, level %v: too much water, but %v, %d", g.Side(), height, s, e)
		}
		return s, false
	}
	if e != api.OK || !modelSame(s, want) {
		t.Fatalf("side %d, level %v: %v, %d, want %v", g.Side(), height, s, e, want)
	}
	if at, e := Check(g.Side(), s); at != 0 || e != api.OK {
		t.Fatalf("side %d, level %v: a lake that can't be: %d, %d", g.Side(), height, at, e)
	}
	for cell, x := range s.Bed {
		if x >= height && s.Water[cell] != 0 {
			t.Fatalf("side %d, level %v: cell %d with bed %v is wet", g.Side(), height, cell, x)
		}
	}
	return s, true
}

// P20.1, P20.4: over the net of side 1 by hand; beds above, at and below the level.
func TestLakeByHand(t *testing.T) {
	for _, r := range []struct {
		bed   []float64
		level float64
		water []int64
	}{
		{[]float64{0, 0, 0, 0, 0, 0}, 1, []int64{area, area, area, area, area, area}},
		{[]float64{0, 1, up(1), down(1), 5, -2}, 1, []int64{area, 0, 0, 0, 0, 3 * area}},
		{[]float64{0, 0.5, 0.75, 1, 1.25, -0.5}, 1, []int64{area, 715827882, 357913941, 0, 0, 2147483648}}, // 715827882.5, 357913941.25 and 2147483647.5
		{[]float64{0, 0, 0, 0, 0, 0}, 0, make([]int64, 6)},
		{[]float64{0, 0, 0, 0, 0, 0}, minusZero, make([]int64, 6)},
		{[]float64{0, -1, 1, -least, least, -2}, minusZero, []int64{0, area, 0, 0, 0, 2 * area}},
		{[]float64{0, 0, 0, 0, 0, 0}, -1, make([]int64, 6)},
		{[]float64{-3, -1, 0, -2, -1.5, -1.75}, -1.5, []int64{2147483648, 0, 0, 715827882, 0, 357913941}},
		{[]float64{1048576, 1048576, 1048576, 1048576, 1048576, 1048575}, 1048576, []int64{0, 0, 0, 0, 0, area}},
		{[]float64{-1048576, -1048576, 1048576, 0, 0, -1048575}, -1048576, make([]int64, 6)},
		{[]float64{0, 1, 1, 1, 1, 1}, 0x1p-32, []int64{0, 0, 0, 0, 0, 0}},
		{[]float64{0, 1, 1, 1, 1, 1}, 0x1p-31, []int64{1, 0, 0, 0, 0, 0}},
	} {
		s, e := Lake(1, r.bed, r.level)
		if e != api.OK || !slices.Equal(s.Water, r.water) || !slices.EqualFunc(s.Bed, r.bed, sameBits) {
			t.Errorf("beds %v, level %v: %v, %d, want %v", r.bed, r.level, s, e, r.water)
		}
		lakeIs(t, netOf(t, 1), r.bed, r.level)
	}
}

// P20.1: all water together just at and just above MaxWater: six beds of 0 and a level of 2^19 lack 2^20 quanta.
func TestFullLakes(t *testing.T) {
	for _, r := range []struct {
		more int64
		e    api.Errno
	}{{0, api.OK}, {1<<20 - 1, api.OK}, {1 << 20, api.OK}, {1<<20 + 1, api.ErrWater}, {1 << 21, api.ErrWater}, {1 << 40, api.ErrWater}} {
		for cell := range 6 {
			bed := make([]float64, 6)
			bed[cell] = -float64(r.more) / area
			if r.more == 0 {
				bed[cell] = 0
			}
			s, e := Lake(1, bed, 0x1p19)
			if e != r.e {
				t.Errorf("%d more in cell %d: %d, want %d", r.more, cell, e, r.e)
			}
			if e == api.OK && total(s.Water).Int64() != most-1<<20+r.more {
				t.Errorf("%d more in cell %d: all is %d", r.more, cell, total(s.Water))
			}
			if e != api.OK && !empty(s) {
				t.Errorf("%d more in cell %d: %v", r.more, cell, s)
			}
			lakeIs(t, netOf(t, 1), bed, 0x1p19)
		}
	}
	deep := slices.Repeat([]float64{-1048576}, 6144)
	if s, e := Lake(32, deep, 1048576); e != api.ErrWater || !empty(s) {
		t.Errorf("the deepest lake: %d", e)
	}
	if s, e := Lake(32, deep, -1048576); e != api.OK || total(s.Water).Sign() != 0 {
		t.Errorf("the lowest lake: %d", e)
	}
}

// P20.1: the errors, alone and with all later ones beside them.
func TestLakeErrors(t *testing.T) {
	flat, bad := make([]float64, 6), make([]float64, 6)
	bad[5] = nan
	for k, r := range []struct {
		side  int
		bed   []float64
		level float64
		e     api.Errno
	}{
		{0, nil, 1, api.ErrSide},
		{0, flat, 1, api.ErrSide},
		{0, bad[1:], nan, api.ErrSide},
		{33, make([]float64, 6*33*33), 1, api.ErrSide},
		{33, nil, nan, api.ErrSide},
		{-1, flat, 1, api.ErrSide},
		{1, nil, 1, api.ErrSize},
		{1, flat[:5], 1, api.ErrSize},
		{1, make([]float64, 7), 1, api.ErrSize},
		{2, flat, 1, api.ErrSize},
		{1, make([]float64, 24), 1, api.ErrSize},
		{1, bad[1:], nan, api.ErrSize},
		{1, bad[1:], 1, api.ErrSize},
		{1, flat[1:], nan, api.ErrSize},
		{1, flat[1:], 0x1p20, api.ErrSize},
		{32, make([]float64, 6143), 1, api.ErrSize},
		{1, bad, 1, api.ErrBed},
		{1, bad, nan, api.ErrBed},
		{1, bad, 0x1p20, api.ErrBed},
		{1, flat, nan, api.ErrArg},
		{1, flat, up(1048576), api.ErrArg},
		{1, flat, down(-1048576), api.ErrArg},
		{1, flat, inf, api.ErrArg},
		{1, flat, -inf, api.ErrArg},
		{1, flat, 1048576, api.ErrWater},
		{1, flat, 0x1.00001p19, api.ErrWater},
	} {
		if s, e := Lake(r.side, r.bed, r.level); e != r.e || !empty(s) {
			t.Errorf("row %d: %v, %d, want %d", k, s, e, r.e)
		}
	}
	for _, side := range ints() {
		want := api.ErrSide
		if side >= 1 && side <= 32 {
			want = api.ErrSize
		}
		if side == 1 {
			want = api.OK
		}
		if _, e := Lake(side, flat, 1); e != want {
			t.Errorf("side %d: %d, want %d", side, e, want)
		}
	}
}

// P20.1: each float as a bed, at each cell, and as a level.
func TestLakesOfAllFloats(t *testing.T) {
	g := netOf(t, 1)
	for _, x := range floats() {
		for cell := range 6 {
			bed := make([]float64, 6)
			bed[cell] = x
			if modelKept(x, 1<<20) {
				lakeIs(t, g, bed, 1)
			} else if s, e := Lake(1, bed, 1); e != api.ErrBed || !empty(s) {
				t.Errorf("bed %d = %x: %v, %d", cell, math.Float64bits(x), s, e)
			}
		}
		beds := []float64{0, 1, -1, 1024, 1048576, -1048576}
		if modelKept(x, 1<<20) || sameBits(x, minusZero) {
			lakeIs(t, g, beds, x)
		} else if s, e := Lake(1, beds, x); e != api.ErrArg || !empty(s) {
			t.Errorf("level %x: %v, %d", math.Float64bits(x), s, e)
		}
	}
}

// P20.1, P20.4: lakes over any beds, many of which aren't below the level.
func TestLakesOverAnyBeds(t *testing.T) {
	p := newPicker()
	lakes, full := 0, 0
	for _, side := range []int{1, 2, 3, 5, 32} {
		g := netOf(t, side)
		for range 8 {
			for _, top := range []float64{1, 1000, 1 << 17, 1 << 18, 1 << 20} {
				bed := make([]float64, g.Cells())
				for cell := range bed {
					bed[cell] = p.float(top)
				}
				height := p.float(top)
				bed[p.below(len(bed))] = height
				if _, ok := lakeIs(t, g, bed, height); ok {
					lakes++
				} else {
					full++
				}
			}
		}
	}
	if lakes < 50 || full < 10 {
		t.Errorf("%d lakes, %d with too much water", lakes, full)
	}
}

// P20.4: over whole beds, to a whole level, all that is wet has that level.
func TestLakesAtRest(t *testing.T) {
	p := newPicker()
	for _, side := range []int{1, 2, 3, 8} {
		g := netOf(t, side)
		for range 20 {
			bed := make([]float64, g.Cells())
			for cell := range bed {
				bed[cell] = float64(p.below(2001) - 1000)
			}
			height := float64(p.below(2001) - 1000)
			s, ok := lakeIs(t, g, bed, height)
			if !ok {
				t.Fatal("too much water")
			}
			for cell, n := range s.Water {
				if n > 0 && level.Level(bed[cell], n, g.Area(cell)) != height || (n > 0) != (bed[cell] < height) {
					t.Fatalf("side %d: cell %d, bed %v, has %d: level %v", side, cell, bed[cell], n, height)
				}
			}
		}
	}
}
