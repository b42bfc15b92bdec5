package level

import (
	"math"
	"math/big"

	"tarn/api"
)

// The model: the chapter's words over exact numbers, each operation rounded by itself; of floats it takes their
// comparisons alone.

func exact(x float64) *big.Rat { return new(big.Rat).SetFloat64(x) }

func whole(i int64) *big.Rat { return new(big.Rat).SetInt64(i) }

func rounded(r *big.Rat) float64 {
	x, _ := r.Float64()
	return x
}

func nearestFloat(i int64) float64 { return rounded(whole(i)) }

func finite(x float64) bool { return x >= -math.MaxFloat64 && x <= math.MaxFloat64 }

func modelDepth(water, area int64) float64 {
	if water < 1 || area < 1 {
		return 0
	}
	w, a := exact(nearestFloat(water)), exact(nearestFloat(area))
	return rounded(w.Quo(w, a))
}

func modelLevel(bed float64, water, area int64) float64 {
	if bed != bed {
		return math.Float64frombits(api.QuietNaN)
	}
	if !finite(bed) {
		return bed
	}
	sum := exact(bed)
	return rounded(sum.Add(sum, exact(modelDepth(water, area)))) // a rational 0 is +0 as a float
}

func modelFill(bed float64, area int64, level float64) int64 {
	if !(level > bed) || area < 1 {
		return 0
	}
	if !finite(bed) || !finite(level) {
		return api.MaxWater
	}
	height := rounded(new(big.Rat).Sub(exact(level), exact(bed)))
	if !finite(height) {
		return api.MaxWater
	}
	water := rounded(new(big.Rat).Mul(exact(height), exact(nearestFloat(area))))
	if !finite(water) {
		return api.MaxWater
	}
	n := nearestWhole(exact(water))
	if n.Cmp(big.NewInt(api.MaxWater)) > 0 {
		return api.MaxWater
	}
	return n.Int64()
}

// nearestWhole: of a number that isn't below 0; of two equally near ones the even one.
func nearestWhole(r *big.Rat) *big.Int {
	two := big.NewInt(2)
	n, rest := new(big.Int).QuoRem(r.Num(), r.Denom(), new(big.Int))
	switch c := rest.Mul(rest, two).Cmp(r.Denom()); {
	case c > 0, c == 0 && n.Bit(0) == 1:
		n.Add(n, big.NewInt(1))
	}
	return n
}
