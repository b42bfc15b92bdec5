package level

import (
	"math"
	"math/big"
	"slices"
	"testing"

	"tarn/api"
)

const (
	least    = math.SmallestNonzeroFloat64
	greatest = math.MaxFloat64
	normal   = 0x1p-1022 // the least one
)

func same(x, y float64) bool { return math.Float64bits(x) == math.Float64bits(y) }

func up(x float64) float64 { return math.Nextafter(x, math.Inf(1)) }

func down(x float64) float64 { return math.Nextafter(x, math.Inf(-1)) }

// scatter: a rule that makes the next of a row of scattered bits.
func scatter(s uint64) uint64 {
	s ^= s << 13
	s ^= s >> 7
	s ^= s << 17
	return s
}

// numbers: whole numbers, sorted: the ends, those beside powers of 2, and scattered ones of every length.
func numbers() []int64 {
	out := []int64{math.MinInt64, math.MinInt64 + 1, -1 << 53, -1 << 32, -1 << 31, -2, -1, 0, 3, 5, 6, 7, 9, 10, 11, 100, 1431655765,
		math.MaxInt64 - 512, math.MaxInt64 - 511, math.MaxInt64 - 1, math.MaxInt64}
	for k := range 63 {
		out = append(out, 1<<k-1, 1<<k, 1<<k+1)
	}
	s := uint64(0x9e3779b97f4a7c15)
	for k := range 63 {
		s = scatter(s)
		out = append(out, int64(s>>(k+1)))
	}
	slices.Sort(out)
	return slices.Compact(out)
}

// few: fewer whole numbers, sorted, as waters and areas.
func few() []int64 {
	return []int64{math.MinInt64, -1 << 32, -1, 0, 1, 2, 3, 7, 10, 100, 1021, 85593799, 1431655765, 1<<31 - 1, 1 << 31, 1<<52 - 1, 1 << 52,
		1<<53 - 1, 1 << 53, 1<<53 + 1, 1<<53 + 3, 1 << 62, math.MaxInt64 - 511, math.MaxInt64}
}

// heights: floats that aren't NaNs, sorted, +0 behind -0: those that the chapter names, and those beside them, with both signs.
func heights() []float64 {
	ms := []float64{least, 2 * least, normal, 0x1p-600, 0x1p-60, 0x1p-53, 0x1p-31, 0x1p-30, 0.01, 0.1, 1.0 / 3, 0.5, 1, 1.25, 1.35, 1.5, 2, 2.5, 3, 1e16,
		api.MaxHeight, 0x1p31, 0x1p52, 0x1p53, 0x1p900, 0x1p1023, greatest}
	s := uint64(0x853c49e6748fea9b)
	for range 12 {
		s = scatter(s)
		ms = append(ms, math.Ldexp(1+float64(s>>12)/(1<<52), int(s%40)-20))
	}
	out := []float64{math.Inf(-1)}
	for _, m := range ms {
		out = append(out, m, -m, down(m), -down(m), up(m), -up(m))
	}
	slices.Sort(out)
	out = slices.DeleteFunc(slices.Compact(out), func(x float64) bool { return x == 0 })
	at, _ := slices.BinarySearch(out, 0)
	return slices.Insert(out, at, math.Copysign(0, -1), 0)
}

func nans() []float64 {
	var out []float64
	for _, b := range []uint64{0x7ff0000000000001, 0x7ff8000000000000, api.QuietNaN, 0x7fffffffffffffff} {
		out = append(out, math.Float64frombits(b), math.Float64frombits(b|1<<63))
	}
	return out
}

func floats() []float64 { return append(heights(), nans()...) }

// P11.1: the chapter's examples, the ends, and numbers that more than one rounding hangs on.
func TestDepthsByHand(t *testing.T) {
	for _, r := range []struct {
		water, area int64
		want        float64
	}{
		{3, 2, 1.5},
		{1, 3, 1.0 / 3},
		{0, 5, 0},
		{-1, 5, 0},
		{5, 0, 0},
		{5, -1, 0},
		{-5, -5, 0},
		{math.MinInt64, math.MinInt64, 0},
		{math.MinInt64, 1, 0},
		{math.MaxInt64, math.MinInt64, 0},
		{math.MaxInt64, 1, 0x1p63},
		{math.MaxInt64, math.MaxInt64, 1},
		{1, math.MaxInt64, 0x1p-63},
		{1<<53 + 1, 1, 0x1p53},     // the even one of both
		{1<<53 + 3, 1, 0x1p53 + 4}, // so here
		{1<<53 + 1, 1<<53 + 1, 1},
		{1 << 53, 1<<53 + 1, 1}, // the area is rounded ahead of the division
		{1<<53 + 1, 1 << 53, 1},
		{1, 1, 1},
	} {
		if d := Depth(r.water, r.area); !same(d, r.want) {
			t.Errorf("Depth(%d, %d) is %v, want %v", r.water, r.area, d, r.want)
		}
	}
}

// P11.1: the chapter's examples, noughts and infinities.
func TestLevelsByHand(t *testing.T) {
	inf, minus := math.Inf(1), math.Copysign(0, -1)
	for _, r := range []struct {
		bed         float64
		water, area int64
		want        float64
	}{
		{-2.5, 3, 2, -1},
		{0.1, 0, 5, 0.1},
		{0.1, -7, 5, 0.1},
		{0.1, 7, 0, 0.1},
		{0.1, 7, -1, 0.1},
		{minus, 0, 5, 0},
		{minus, math.MinInt64, math.MinInt64, 0},
		{0, 0, 5, 0},
		{-1, 1, 1, 0},
		{inf, 1, 1, inf},
		{-inf, 1, 1, -inf},
		{-inf, math.MaxInt64, 1, -inf},
		{1e16, 1, 1, 1e16},
		{1e16, 3, 1, 1e16 + 4},
		{greatest, math.MaxInt64, 1, greatest},
		{-greatest, math.MaxInt64, 1, -greatest},
		{least, 1, math.MaxInt64, 0x1p-63},
		{-least, 0, 1, -least},
		{-0x1p63, math.MaxInt64, 1, 0},
	} {
		if l := Level(r.bed, r.water, r.area); !same(l, r.want) {
			t.Errorf("Level(%v, %d, %d) is %v, want %v", r.bed, r.water, r.area, l, r.want)
		}
	}
	for _, bed := range nans() {
		for _, water := range []int64{-1, 0, 1} {
			if b := math.Float64bits(Level(bed, water, 1)); b != api.QuietNaN {
				t.Errorf("Level of the NaN %x has the bits %x", math.Float64bits(bed), b)
			}
		}
	}
}

// P11.1: the chapter's examples, levels at and beside the bed, middles, nothing and the most.
func TestFillsByHand(t *testing.T) {
	nan, inf, minus := math.NaN(), math.Inf(1), math.Copysign(0, -1)
	const most = 4503599627370496
	for _, r := range []struct {
		bed   float64
		area  int64
		level float64
		want  int64
	}{
		{0, 10, 1.25, 12}, // a middle, as the next two
		{0, 10, 0.05, 0},
		{0, 10, 0.15, 2},
		{0, 10, 1.35, 14}, // the product rounds to a middle
		{0, 10, down(1.25), 12},
		{0, 10, up(1.25), 13},
		{0, 2, 0.25, 0},
		{0, 2, up(0.25), 1},
		{0, 2, 0.75, 2},
		{0, 2, down(0.75), 1},
		{1, 10, 1, 0},
		{2, 10, 1, 0},
		{1, 10, up(1), 0},
		{1, 1 << 52, up(1), 1},
		{1, 1 << 52, down(1), 0},
		{down(1), 1 << 53, 1, 1},
		{minus, 10, 0, 0},
		{0, 10, minus, 0},
		{minus, 10, 1, 10},
		{-1, 10, minus, 10},
		{-2, 10, -1, 10},
		{-1, 10, -2, 0},
		{nan, 10, 1, 0},
		{0, 10, nan, 0},
		{nan, 10, nan, 0},
		{-inf, 10, nan, 0},
		{nan, 10, inf, 0},
		{-inf, 10, 1, most},
		{-inf, 10, inf, most},
		{0, 10, inf, most},
		{inf, 10, inf, 0},
		{-inf, 10, -inf, 0},
		{inf, 10, -inf, 0},
		{inf, 10, 1, 0},
		{-inf, 0, inf, 0},
		{-inf, math.MinInt64, inf, 0},
		{0, 0, 1, 0},
		{0, -5, 1, 0},
		{0, 10, 0.01, 0},
		{0, math.MaxInt64, least, 0},
		{0, 1, 0x1p52, most},
		{0, 1, up(0x1p52), most},
		{0, 1, down(0x1p52), most}, // a middle, whose even one is the most
		{0, 1, 0x1p52 - 1, most - 1},
		{0, 1, 0x1p52 - 1.5, most - 2},
		{0, 1 << 52, 1, most},
		{0, 1 << 52, down(1), most},
		{0, 1<<52 - 1, 1, most - 1},
		{0, 1<<52 + 1, 1, most},
		{0, math.MaxInt64, 1, most},
		{-greatest, 1, greatest, most}, // the difference isn't finite
		{0, math.MaxInt64, greatest, most},
		{1, 3, 1e16, most},
		{-1e16, 1, 1, most},
		{0.1, 10, 0.3, 2},
	} {
		if w := Fill(r.bed, r.area, r.level); w != r.want {
			t.Errorf("Fill(%v, %d, %v) is %d, want %d", r.bed, r.area, r.level, w, r.want)
		}
	}
}

// P11.1, P11.2: against the model; never a NaN, never below +0.
func TestDepthsAgainstTheModel(t *testing.T) {
	for _, water := range numbers() {
		for _, area := range numbers() {
			d := Depth(water, area)
			if want := modelDepth(water, area); !same(d, want) {
				t.Fatalf("Depth(%d, %d) is %v, want %v", water, area, d, want)
			}
			if !(d >= 0) || math.Signbit(d) {
				t.Fatalf("Depth(%d, %d) is %v", water, area, d)
			}
		}
	}
}

// P11.1, P11.2: against the model; not below the bed.
func TestLevelsAgainstTheModel(t *testing.T) {
	for _, bed := range floats() {
		for _, water := range few() {
			for _, area := range few() {
				l := Level(bed, water, area)
				if want := modelLevel(bed, water, area); !same(l, want) {
					t.Fatalf("Level(%v, %d, %d) is %v, want %v", bed, water, area, l, want)
				}
				if l < bed {
					t.Fatalf("Level(%v, %d, %d) is %v", bed, water, area, l)
				}
			}
		}
	}
}

// P11.1, P11.3: against the model; from 0 to MaxWater.
func TestFillsAgainstTheModel(t *testing.T) {
	for _, bed := range floats() {
		for _, level := range floats() {
			for _, area := range few() {
				w := Fill(bed, area, level)
				if want := modelFill(bed, area, level); w != want {
					t.Fatalf("Fill(%v, %d, %v) is %d, want %d", bed, area, level, w, want)
				}
				if w < 0 || w > api.MaxWater {
					t.Fatalf("Fill(%v, %d, %v) is %d", bed, area, level, w)
				}
			}
		}
	}
}

// P11.2: of more water neither depth nor level is less, of more area the depth isn't more.
func TestMoreWaterAndMoreArea(t *testing.T) {
	ns := numbers()
	for k, more := range ns[1:] {
		for _, other := range ns {
			if Depth(ns[k], other) > Depth(more, other) {
				t.Fatalf("over %d water %d is deeper than %d", other, ns[k], more)
			}
			if ns[k] >= 1 && Depth(other, ns[k]) < Depth(other, more) {
				t.Fatalf("water %d is deeper over %d than over %d", other, more, ns[k])
			}
		}
		for _, bed := range heights() {
			for _, area := range few() {
				if Level(bed, ns[k], area) > Level(bed, more, area) {
					t.Fatalf("over the bed %v and %d water %d is higher than %d", bed, area, ns[k], more)
				}
			}
		}
	}
}

// P11.3: a higher level takes no less, a higher bed no more.
func TestHigherLevelsAndBeds(t *testing.T) {
	hs := heights()
	for k, higher := range hs[1:] {
		for _, other := range hs {
			for _, area := range few() {
				if Fill(other, area, hs[k]) > Fill(other, area, higher) {
					t.Fatalf("over the bed %v and %d the level %v takes more than %v", other, area, hs[k], higher)
				}
				if Fill(hs[k], area, other) < Fill(higher, area, other) {
					t.Fatalf("up to %v over %d the bed %v takes more than %v", other, area, higher, hs[k])
				}
			}
		}
	}
}

// filled: whether this cell, filled to a level, has it as nearly as P11.4 says; true where it says nothing.
func filled(bed float64, area int64, level float64) bool {
	water := Fill(bed, area, level)
	if water == 0 || water >= api.MaxWater {
		return true
	}
	gap := exact(Level(bed, water, area))
	gap.Sub(gap, exact(level)).Abs(gap)
	most := big.NewRat(1, area)
	return gap.Cmp(most.Add(most, exact(0x1p-29))) <= 0
}

// P11.4: beds, levels and areas as a sea has them.
func TestFilledCellsHaveTheirLevel(t *testing.T) {
	hs := slices.DeleteFunc(heights(), func(h float64) bool { return math.Abs(h) > api.MaxHeight })
	as := slices.DeleteFunc(few(), func(a int64) bool { return a < 1 || a > 1<<31 })
	if !slices.Contains(hs, api.MaxHeight) || !slices.Contains(hs, -api.MaxHeight) || !slices.Contains(as, 1) || !slices.Contains(as, 1<<31) {
		t.Fatal("the ends are missing")
	}
	for _, bed := range hs {
		for _, level := range hs {
			for _, area := range as {
				if !filled(bed, area, level) {
					t.Fatalf("filled to %v, a cell with bed %v and area %d has another level", level, bed, area)
				}
			}
		}
	}
}

// P11.4: a row of levels from just above the bed on, where the water is a few quanta.
func TestFillingByFewQuanta(t *testing.T) {
	for _, bed := range []float64{-api.MaxHeight, -3, -0.1, 0, 0.7, 1 << 10, api.MaxHeight - 2} {
		for _, area := range []int64{1, 2, 3, 10, 1021, 1431655765, 1 << 31} {
			for k := range 100 {
				level := bed + float64(k)/8/float64(area)
				if !filled(bed, area, level) {
					t.Fatalf("filled to %v, a cell with bed %v and area %d has another level", level, bed, area)
				}
			}
		}
	}
}
