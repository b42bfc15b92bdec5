package check

import (
	"fmt"
	"math"
	"slices"
	"testing"

	"tarn/api"
	"tarn/state"
	"tarn/step"
)

// isRest: of a sea of side 1, by hand.
func isRest(t *testing.T, what string, s api.Sea, want bool) {
	t.Helper()
	if got := rests(t, what, 1, s); got != want {
		t.Errorf("%s: %v", what, got)
	}
}

// P26.1, the chapter's examples.
func TestRestExamples(t *testing.T) {
	s := empty(1)
	isRest(t, "nothing", s, true)
	s.Speed[0] = 1
	isRest(t, "a speed", s, false)
	s = empty(1)
	s.Water[0] = area
	isRest(t, "water in cell 0 alone", s, false)
	s.Bed[0] = -1
	isRest(t, "water in a hollow", s, true)
}

// high: beds so high that nothing beside it matters.
const high = 1000

// twoCells: a sea in which but for two cells all stands high and dry.
func twoCells(one, other int, bed, otherBed float64, water, otherWater int64) api.Sea {
	s := empty(1)
	for cell := range s.Bed {
		s.Bed[cell] = high
	}
	s.Bed[one], s.Bed[other], s.Water[one], s.Water[other] = bed, otherBed, water, otherWater
	return s
}

// P26.1: each edge of side 1 with water on one side, on both, on none. An edge's cells are any two that aren't opposite.
func TestEachEdge(t *testing.T) {
	g := netOf(t, 1)
	ulp := 0x1p-52 // from 1 to 2
	for e := range g.Edges() {
		two, _ := g.Edge(e)
		for _, c := range [][2]int{{two.Left, two.Right}, {two.Right, two.Left}} {
			for _, x := range []struct {
				what              string
				bed, otherBed     float64
				water, otherWater int64
				want              bool
			}{
				{"both dry, on one bed", 0, 0, 0, 0, true},
				{"both dry, on two beds", -5, 3, 0, 0, true},
				{"the one's level is below the other's bed", 0, 1.5, area, 0, true},
				{"the one's level is the other's bed", 0, 1, area, 0, true},
				{"the one's level is just below the other's bed", 0, 1 + ulp, area, 0, true},
				{"the one's level is just above the other's bed", 0, 1 - ulp/2, area, 0, false},
				{"the one's level is far above the other's bed", 0, -3, area, 0, false},
				{"a quantum above the other's bed", 0, 0, 1, 0, false},
				{"both wet, the same", 0, 0, area, area, true},
				{"both wet, the same level over two beds", 0, -2, area, 3 * area, true},
				{"both wet, a quantum more", 0, 0, area, area + 1, false},
				{"both wet, levels that are neighbours", 0.25, 0.25 + ulp, area, area, false},
				{"both wet, levels that are neighbours, beds below 0", -0.5, -0.5 + ulp/2, area, area, false},
				{"both wet, one float of two beds", 0.25, 0.25 + ulp/4, area, area, true},
				{"both wet, one float of two sums", 0.25 + ulp/4, 0.25 - ulp/4, area, area, true},
				{"both wet, levels of 0", -1, -2, area, 2 * area, true},
				{"both wet, levels of 0 and just above", -1, -1 + ulp/2, area, area, false},
				{"both wet, the other's bed above the one's level", 0, 5, area, 1, false},
				{"both wet, far apart", 0, 0, 1, 100 * area, false},
			} {
				s := twoCells(c[0], c[1], x.bed, x.otherBed, x.water, x.otherWater)
				isRest(t, fmt.Sprint("cells ", c, ": ", x.what), s, x.want)
			}
		}
	}
}

// P26.1: over a bed of 2^20 a quantum shows by three floats; below one of -2^20 as well.
func TestRestAtTheEnds(t *testing.T) {
	for _, bed := range []float64{0x1p20, -0x1p20} {
		s := empty(1)
		for cell := range s.Bed {
			s.Bed[cell] = bed
		}
		isRest(t, "dry", s, true)
		for cell := range s.Water {
			s.Water[cell] = most / 6
		}
		isRest(t, "as much water as can be", s, true)
		s.Sky = 4 // what six cells leave
		isRest(t, "a full sky", s, true)
		for cell := range s.Water {
			s.Water[cell]--
			isRest(t, "a quantum less", s, false)
			s.Water[cell]++
		}
	}
	s := empty(1)
	s.Bed = []float64{0x1p20, 0x1p20, 0x1p20, 0x1p20, 0x1p20, -0x1p20}
	isRest(t, "a shaft", s, true)
	s.Water[5] = 0x1p21 * area
	isRest(t, "a shaft, full", s, true)
	s.Water[5]++
	isRest(t, "a shaft, and a quantum more", s, false)
	s.Water[5] = most
	isRest(t, "all in a shaft", s, false)
	s = empty(1)
	s.Sky, s.Tracer[0] = most, most
	isRest(t, "all in the sky, and all the tracer in a cell", s, true)
}

// P26.4: each speed that isn't +0, over each edge, of a sea that else is at rest; over closed edges, too.
func TestSpeedsArentRest(t *testing.T) {
	pond := empty(1)
	for cell := range pond.Water {
		pond.Water[cell] = area
	}
	hollow := empty(1)
	hollow.Bed[3], hollow.Water[3] = -1, area
	for what, s := range map[string]api.Sea{"nothing": empty(1), "a pond": pond, "a hollow": hollow} {
		isRest(t, what, s, true)
		for edge := range 12 {
			for _, x := range []float64{least, -least, 0x1p-1022, 1, -1, 1024, -1024} {
				s.Speed[edge] = x
				isRest(t, fmt.Sprint(what, ", speed ", x), s, false)
			}
			for _, x := range []float64{minusZero, math.Nextafter(1024, inf), -1025, inf, -inf, nan, math.Float64frombits(0xfff0000000000001)} {
				s.Speed[edge] = x
				if Rest(1, s) {
					t.Errorf("%s with a speed of %v is at rest", what, x)
				}
			}
			s.Speed[edge] = 0
		}
		isRest(t, what+" again", s, true)
	}
}

// P26.4: lakes of layer 20. Over whole beds, to a whole level, all are at rest; of the others those whose levels are one
// float.
func TestLakesAtRest(t *testing.T) {
	pick := newPicker()
	resting := 0
	for _, side := range []int{1, 2, 3, 5, 8, 32} {
		for k := range max(2, 200/(side*side)) {
			s := pick.lake(t, side, true)
			if !rests(t, "a lake over whole beds", side, s) {
				t.Errorf("side %d, lake %d isn't at rest", side, k)
			}
			s = pick.lake(t, side, false)
			if rests(t, "a lake over any beds", side, s) {
				resting++
			}
			if !rests(t, "a lake below its beds", side, dried(t, s)) {
				t.Errorf("side %d, lake %d isn't at rest without water", side, k)
			}
		}
	}
	if resting == 0 {
		t.Error("no lake over any beds is at rest")
	}
}

// dried: the lake over a sea's beds whose level is at the lowest one.
func dried(t *testing.T, s api.Sea) api.Sea {
	t.Helper()
	side := int(math.Sqrt(float64(len(s.Bed) / 6)))
	out, errno := state.Lake(side, s.Bed, slices.Min(s.Bed))
	if errno != api.OK || total(out.Water).Sign() != 0 {
		t.Fatalf("no dry lake: %d", errno)
	}
	return out
}

// P26.4: lakes whose cells all are wet and have one float as their level, by the model.
func TestLakesOfOneLevel(t *testing.T) {
	pick := newPicker()
	count := 0
	for k := range 300 {
		side := 1 + k%4
		bed := make([]float64, 6*side*side)
		height := pickOf(pick, pick.signed(3), pick.signed(0x1p20), 0.25)
		depths := pickOf(pick, []float64{1, 2, 3}, []float64{1, 3, 0.5, 0.25})
		for cell := range bed {
			bed[cell] = height - pickOf(pick, depths...)
		}
		s, errno := state.Lake(side, bed, height)
		if errno != api.OK {
			t.Fatalf("lake %d: %d", k, errno)
		}
		one := true
		for cell := range bed {
			one = one && modelLevel(side, s, cell).Cmp(modelLevel(side, s, 0)) == 0
		}
		if got := rests(t, k, side, s); got != one {
			t.Errorf("lake %d: all levels are one: %v, at rest: %v", k, one, got)
		}
		if one {
			count++
		}
	}
	if count < 10 || count > 290 {
		t.Errorf("of 300 lakes %d have one level", count)
	}
}

// P26.1: seas of all kinds, those that are all but at rest among them, against the model; and what is at rest stays the
// same in a step (P4).
func TestRestAgainstTheModel(t *testing.T) {
	pick := newPicker()
	count := [2]int{}
	for _, side := range []int{1, 2, 3, 4, 6} {
		g := netOf(t, side)
		for range 2000 / (side * side) {
			s := pick.levelled(g)
			if pick.below(4) == 0 {
				s = pick.lake(t, side, true)
			}
			for range pick.below(3) {
				pick.disturb(s)
			}
			if !rests(t, "levelled", side, s) {
				count[0]++
				continue
			}
			count[1]++
			p := planOf(side)
			p.Drag, p.Limiter = pick.unit(), pick.below(4)
			next, errno := step.One(g, p, s)
			s.Step++
			if errno != api.OK || !state.Same(next, s) {
				t.Fatalf("side %d: what is at rest doesn't stay: %d", side, errno)
			}
		}
		for kind := range kinds {
			for range 5 {
				s := pick.sea(g, kind)
				rests(t, kind, side, s)
				clear(s.Speed)
				rests(t, kind, side, s)
			}
		}
	}
	if count[0] < 300 || count[1] < 300 {
		t.Errorf("%d aren't at rest, %d are", count[0], count[1])
	}
}

// P26.1: each side that there is, and those that there aren't.
func TestRestOfAllSides(t *testing.T) {
	pick := newPicker()
	for side := 1; side <= 32; side++ {
		s := empty(side)
		if !rests(t, "nothing", side, s) {
			t.Errorf("side %d: nothing isn't at rest", side)
		}
		s.Water[pick.below(len(s.Water))] = 1
		if rests(t, "a quantum", side, s) {
			t.Errorf("side %d: a quantum is at rest", side)
		}
		if Rest(side, empty(side%32+1)) || Rest(side, api.Sea{}) {
			t.Errorf("side %d: a sea of another side is at rest", side)
		}
	}
	for _, side := range []int{first, first + 1, -32, -1, 0, 33, 64, 1 << 32, 1<<32 + 1, last} {
		if Rest(side, empty(1)) || Rest(side, api.Sea{}) || Rest(side, empty(33)) {
			t.Errorf("side %d: a sea is at rest", side)
		}
	}
}

// P26.2: Rest of a sea turned, by each of the turns.
func TestRestOfTurnedSeas(t *testing.T) {
	pick := newPicker()
	count := [2]int{}
	for _, side := range []int{1, 2, 3, 4, 5} {
		g := netOf(t, side)
		for range 16 {
			s := pick.levelled(g)
			if pick.below(2) == 0 {
				pick.disturb(s)
			}
			want := rests(t, "a sea", side, s)
			if want {
				count[1]++
			} else {
				count[0]++
			}
			for turn := range 24 {
				u, errno := state.Turned(side, s, turn)
				if got := rests(t, "turned", side, u); errno != api.OK || got != want {
					t.Errorf("side %d, turn %d: %v, want %v", side, turn, got, want)
				}
			}
		}
	}
	if count[0] < 15 || count[1] < 15 {
		t.Errorf("%d aren't at rest, %d are", count[0], count[1])
	}
	lake := pick.lake(t, 32, true)
	for turn := range 24 {
		u, _ := state.Turned(32, lake, turn)
		if !Rest(32, u) {
			t.Errorf("turn %d: a lake of side 32 isn't at rest", turn)
		}
		u.Water[slices.Index(u.Water, slices.Max(u.Water))]++
		if Rest(32, u) {
			t.Errorf("turn %d: a lake of side 32 with a quantum more is at rest", turn)
		}
	}
}
