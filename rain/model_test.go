package rain

import (
	"math/big"

	"tarn/api"
)

// The model: the chapter's words over whole numbers of any size. Cells and sky are places alike, the sky the last of
// them; a rain has a place that gives and one that gets.

func within(n *big.Int, least *big.Int, greatest *big.Int) bool {
	return n.Cmp(least) >= 0 && n.Cmp(greatest) <= 0
}

func maxWater() *big.Int { return new(big.Int).Lsh(big.NewInt(1), 52) }

func modelValid(cells int, r api.Rain) bool {
	lastCell := new(big.Int).Sub(big.NewInt(int64(cells)), big.NewInt(1))
	cell, amount, from, to := big.NewInt(int64(r.Cell)), big.NewInt(r.Amount), big.NewInt(int64(r.From)), big.NewInt(int64(r.To))
	least := new(big.Int).Neg(maxWater())
	return within(cell, new(big.Int), lastCell) && within(amount, least, maxWater()) && from.Sign() >= 0 && to.Cmp(from) >= 0
}

func modelTakes(water []int64, sky int64, rains []api.Rain, step int) bool {
	if step < 0 || len(rains) > 1024 {
		return false
	}
	for _, n := range append([]int64{sky}, water...) {
		if !within(big.NewInt(n), new(big.Int), maxWater()) {
			return false
		}
	}
	for _, r := range rains {
		if !modelValid(len(water), r) {
			return false
		}
	}
	return true
}

// modelFall: what each place has behind the rains; false if the chapter says ErrArg.
func modelFall(water []int64, sky int64, rains []api.Rain, step int) ([]*big.Int, bool) {
	if !modelTakes(water, sky, rains, step) {
		return nil, false
	}
	var places []*big.Int
	for _, n := range water {
		places = append(places, big.NewInt(n))
	}
	places = append(places, big.NewInt(sky))
	for _, r := range rains {
		if step < r.From || step >= r.To {
			continue
		}
		from, to := places[len(water)], places[r.Cell]
		if r.Amount < 0 {
			from, to = to, from
		}
		goes := new(big.Int).Abs(big.NewInt(r.Amount))
		if goes.Cmp(from) > 0 {
			goes.Set(from)
		}
		from.Sub(from, goes)
		to.Add(to, goes)
	}
	return places, true
}

// oneByOne: rains of a step whose numbers are small and can be, each quantum by itself.
func oneByOne(water []int64, sky int64, rains []api.Rain, step int) ([]int64, int64) {
	cells := append([]int64{}, water...)
	for _, r := range rains {
		for now := r.From; now < r.To; now++ {
			if now != step {
				continue
			}
			for k := int64(0); k < r.Amount; k++ {
				if sky > 0 {
					cells[r.Cell]++
					sky--
				}
			}
			for k := r.Amount; k < 0; k++ {
				if cells[r.Cell] > 0 {
					cells[r.Cell]--
					sky++
				}
			}
		}
	}
	return cells, sky
}
