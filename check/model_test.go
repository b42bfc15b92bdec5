package check

import (
	"math"
	"math/big"
	"testing"

	"tarn/api"
	"tarn/cube"
	"tarn/geom"
	"tarn/state"
)

// The model: sums are whole numbers of any size, floats fractions that are rounded where the chapters say so, and the
// greatest of floats is found by their bits. Rest goes by cells and their sides instead of edges, and by what can flow out
// of a wet cell.

func total(list []int64) *big.Int {
	sum := new(big.Int)
	for _, n := range list {
		sum.Add(sum, big.NewInt(n))
	}
	return sum
}

// nearest: the float, as a fraction; of two equally near ones the even one.
func nearest(x *big.Rat) *big.Rat {
	f, _ := x.Float64()
	return new(big.Rat).SetFloat64(f)
}

func floatOf(x *big.Rat) float64 {
	f, _ := x.Float64()
	return f
}

func modelDepth(side int, s api.Sea, cell int) *big.Rat {
	return nearest(big.NewRat(s.Water[cell], geom.Area(side, cell)))
}

func modelLevel(side int, s api.Sea, cell int) *big.Rat {
	bed := new(big.Rat).SetFloat64(s.Bed[cell])
	return nearest(bed.Add(bed, modelDepth(side, s, cell)))
}

// modelReport of a sea that can be.
func modelReport(side int, s api.Sea) api.Report {
	var out api.Report
	var deepest, fastest uint64
	energy := new(big.Rat)
	for cell, has := range s.Water {
		depth := modelDepth(side, s, cell)
		energy.Add(energy, nearest(new(big.Rat).Mul(depth, big.NewRat(has, 1))))
		deepest = max(deepest, math.Float64bits(floatOf(depth)))
		if has != 0 {
			out.Wet++
		}
	}
	for _, x := range s.Speed {
		fastest = max(fastest, math.Float64bits(x)<<1>>1)
	}
	out.Water = total(append([]int64{s.Sky}, s.Water...)).Int64()
	out.Tracer = total(s.Tracer).Int64()
	out.Deepest, out.Fastest, out.Energy = math.Float64frombits(deepest), math.Float64frombits(fastest), floatOf(energy)
	return out
}

// modelRest of a sea that can be: no speed, and from no wet cell anything would flow to what lies beside it.
func modelRest(side int, s api.Sea) bool {
	for _, x := range s.Speed {
		if math.Float64bits(x) != 0 {
			return false
		}
	}
	for cell, has := range s.Water {
		if has == 0 {
			continue
		}
		height := modelLevel(side, s, cell)
		for over := range 4 {
			other, _ := cube.Beside(side, cell, over)
			shore := modelLevel(side, s, other).Cmp(height)
			if s.Water[other] != 0 && shore != 0 || shore < 0 {
				return false
			}
		}
	}
	return true
}

func modelKept(a, b api.Sea) bool {
	return total(append([]int64{a.Sky}, a.Water...)).Cmp(total(append([]int64{b.Sky}, b.Water...))) == 0 &&
		total(a.Tracer).Cmp(total(b.Tracer)) == 0
}

// sameReports: floats by their bits.
func sameReports(a, b api.Report) bool {
	return a.Water == b.Water && a.Tracer == b.Tracer && a.Wet == b.Wet &&
		math.Float64bits(a.Deepest) == math.Float64bits(b.Deepest) &&
		math.Float64bits(a.Fastest) == math.Float64bits(b.Fastest) &&
		math.Float64bits(a.Energy) == math.Float64bits(b.Energy)
}

// reported: the Report of a sea that can be, by the model.
func reported(t *testing.T, what any, side int, s api.Sea) api.Report {
	t.Helper()
	if at, errno := state.Check(side, s); errno != api.OK {
		t.Fatalf("%v: the test's own sea can't be: %d, %d", what, at, errno)
	}
	r, errno := Report(planOf(side), s)
	if want := modelReport(side, s); errno != api.OK || !sameReports(r, want) {
		t.Fatalf("%v: side %d: %+v, %d, want %+v", what, side, r, errno, want)
	}
	return r
}

// rests: Rest of a sea that can be, by the model.
func rests(t *testing.T, what any, side int, s api.Sea) bool {
	t.Helper()
	if at, errno := state.Check(side, s); errno != api.OK {
		t.Fatalf("%v: the test's own sea can't be: %d, %d", what, at, errno)
	}
	got := Rest(side, s)
	if got == modelRest(side, s) {
		return got
	}
	if side < 3 {
		t.Fatalf("%v: side %d: %v, of %v", what, side, got, s)
	}
	t.Fatalf("%v: side %d: %v", what, side, got)
	return got
}

// keeps: Kept both ways, by the model.
func keeps(t *testing.T, what any, a, b api.Sea) bool {
	t.Helper()
	want := modelKept(a, b)
	if Kept(a, b) != want || Kept(b, a) != want {
		t.Fatalf("%v: %v and %v, want %v", what, Kept(a, b), Kept(b, a), want)
	}
	return want
}
