package check

import (
	"math"

	"tarn/acc"
	"tarn/bits"
	"tarn/conv"
	"tarn/grid"
	"tarn/level"
)

// all quanta of a list of a sea that can be: they are at most MaxWater together.
func all(list []int64) int64 {
	var sum int64
	for _, n := range list {
		sum += n
	}
	return sum
}

func wet(water []int64) int {
	count := 0
	for _, has := range water {
		if has > 0 {
			count++
		}
	}
	return count
}

func depthsOf(g *grid.Grid, water []int64) []float64 {
	depths := make([]float64, len(water))
	for cell, has := range water {
		depths[cell] = level.Depth(has, g.Area(cell))
	}
	return depths
}

func magnitudes(list []float64) []float64 {
	out := make([]float64, len(list))
	for k, x := range list {
		out[k] = math.Abs(x)
	}
	return out
}

// greatest of a list; +0 if none is above it.
func greatest(list []float64) float64 {
	most := 0.0
	for _, x := range list {
		most = bits.Max(most, x)
	}
	return most
}

// energy: each term is rounded by itself, the sum of all of them once more. A cell has one term: a sum takes more than a
// net has cells.
func energy(water []int64, depths []float64) float64 {
	sum := acc.New()
	for cell, has := range water {
		sum.Add(float64(conv.FromInt(has) * depths[cell]))
	}
	return sum.Value()
}
