package check

import (
	"fmt"
	"math"
	"slices"
	"testing"

	"tarn/api"
	"tarn/step"
)

func water(sky int64, list ...int64) api.Sea { return api.Sea{Water: list, Sky: sky} }

func tracer(list ...int64) api.Sea { return api.Sea{Tracer: list} }

// P26.1, the chapter's examples.
func TestKeptExamples(t *testing.T) {
	z, s := empty(1), empty(1)
	s.Sky, s.Water[0] = 5, -5
	if !Kept(z, s) || !Kept(s, z) {
		t.Error("what is in the sky lacks in a cell")
	}
	two, halved := empty(1), empty(1)
	two.Water[0], two.Water[1] = last, last
	halved.Water[0], halved.Water[1] = last, last/2
	if Kept(two, halved) || Kept(halved, two) {
		t.Error("half of it")
	}
}

// P26.1: by hand. Each row is of the water and, where the sky has none, of the tracer.
func TestKeptByHand(t *testing.T) {
	for _, x := range []struct {
		what string
		a, b api.Sea
		want bool
	}{
		{"nothing and nothing", water(0), water(0), true},
		{"nothing and an empty list", api.Sea{}, api.Sea{Water: []int64{}, Tracer: []int64{}, Bed: []float64{}, Speed: []float64{}}, true},
		{"nothing and noughts", water(0), water(0, 0, 0, 0), true},
		{"1 and nothing", water(0), water(0, 1), false},
		{"-1 and nothing", water(0), water(0, -1), false},
		{"1 and -1", water(0, 1), water(0, -1), false},
		{"1 - 1", water(0), water(0, 1, -1), true},
		{"another order", water(0, 1, 2, 3), water(0, 3, 1, 2), true},
		{"another length", water(0, 6), water(0, 3, 1, 2), true},
		{"one too many", water(0, 7), water(0, 3, 1, 2), false},
		{"last and last", water(0, last), water(0, last), true},
		{"last and last - 1", water(0, last), water(0, last-1), false},
		{"first and first + 1", water(0, first), water(0, first+1), false},
		{"first and first", water(0, first), water(0, first), true},
		{"first and last", water(0, first), water(0, last), false},
		{"last + first is -1", water(0, last, first), water(0, -1), true},
		{"last + 1 isn't first", water(0, last, 1), water(0, first), false},
		{"first - 1 isn't last", water(0, first, -1), water(0, last), false},
		{"2^63 of two and of three", water(0, last, 1), water(0, 1<<62, 1<<62-1, 1), true},
		{"2^63 and 2^63 + 1", water(0, last, 1), water(0, 1<<62, 1<<62, 1), false},
		{"-2^63 - 1 of two", water(0, first, -1), water(0, -1<<62, -1<<62-1), true},
		{"2^63 and -2^63", water(0, last, 1), water(0, -1<<62, -1<<62), false},
		{"2^64 and nothing", water(0, last, last, 2), water(0), false},
		{"2^64 and 2^64", water(0, last, last, 2), water(0, 1<<62, 1<<62, 1<<62, 1<<62), true},
		{"2^64 and 2^64 + 1", water(0, last, last, 2), water(0, 1<<62, 1<<62, 1<<62, 1<<62, 1), false},
		{"-2^64 and nothing", water(0, first, first), water(0), false},
		{"-2^64 and -2^64", water(0, first, first), water(0, -1<<62, -1<<62, first), true},
		{"-2^64 and 2^64", water(0, first, first), water(0, last, last, 2), false},
		{"2^64 more", water(0, 5, last, last, 2), water(0, 5), false},
		{"2^64 less", water(0, 5, first, first), water(0, 5), false},
		{"2^65 and 2^64", water(0, last, last, last, last, 4), water(0, last, last, 2), false},
		{"2^64 on the way, and back", water(0, last, last, last, first, first, first), water(0, -3), true},
		{"-2^64 on the way, and back", water(0, first, first, last, last), water(0, -2), true},
		{"all of it in the sky", water(last), water(0, last), true},
		{"the sky and a cell", water(last, last), water(2, last, last-2), true},
		{"2^63 by the sky", water(1, last), water(last, 1), true},
		{"2^63 by the sky, and -2^63", water(1, last), water(first), false},
		{"2^64 by the sky", water(2, last, last), water(0), false},
		{"-2^64 by the sky", water(first, first), water(0), false},
		{"a sky below 0", water(first, last), water(-1), true},
		{"skies that are unlike", water(1), water(2), false},
		{"skies that are opposite", water(last), water(-last), false},
		{"the least sky and the greatest", water(first), water(last), false},
	} {
		if got := keeps(t, x.what, x.a, x.b); got != x.want {
			t.Errorf("%s: %v", x.what, got)
		}
		if x.a.Sky != 0 || x.b.Sky != 0 {
			continue
		}
		a, b := tracer(x.a.Water...), tracer(x.b.Water...)
		if got := keeps(t, x.what, a, b); got != x.want {
			t.Errorf("%s, of the tracer: %v", x.what, got)
		}
	}
}

// P26.1: water and tracer are asked each by itself, and the sky is water.
func TestKeptOfBoth(t *testing.T) {
	for _, x := range []struct {
		what string
		a, b api.Sea
		want bool
	}{
		{"water became tracer", water(0, 5), tracer(5), false},
		{"a sky became tracer", water(5), tracer(5), false},
		{"the same sum of both", api.Sea{Water: []int64{5}, Tracer: []int64{6}}, api.Sea{Water: []int64{6}, Tracer: []int64{5}}, false},
		{"the water is unlike", api.Sea{Water: []int64{5}, Tracer: []int64{6}}, api.Sea{Water: []int64{4}, Tracer: []int64{6}}, false},
		{"the tracer is unlike", api.Sea{Water: []int64{5}, Tracer: []int64{6}}, api.Sea{Water: []int64{5}, Tracer: []int64{7}}, false},
		{"both are unlike", api.Sea{Water: []int64{5}, Tracer: []int64{6}}, api.Sea{Water: []int64{4}, Tracer: []int64{7}}, false},
		{"lists of unlike lengths", api.Sea{Water: []int64{5}, Tracer: []int64{6, 1}}, api.Sea{Water: []int64{3, 1, 1}, Tracer: []int64{7}}, true},
		{"2^64 of the tracer", api.Sea{Water: []int64{5}, Tracer: []int64{last, last, 2}}, water(0, 5), false},
		{"2^64 of both", api.Sea{Water: []int64{last, last, 2}, Tracer: []int64{last, last, 2}}, api.Sea{}, false},
		{"nothing else shows", api.Sea{Bed: []float64{nan, inf}, Speed: []float64{minusZero, 2000}, Step: first, Sky: 1}, api.Sea{Bed: []float64{1}, Step: last, Water: []int64{1}}, true},
	} {
		if got := keeps(t, x.what, x.a, x.b); got != x.want {
			t.Errorf("%s: %v", x.what, got)
		}
	}
	nothing := api.Sea{Bed: []float64{nan}, Speed: []float64{nan}}
	if !keeps(t, "NaNs", nothing, nothing) {
		t.Error("a sea of NaNs isn't kept")
	}
}

// P26.1: so many numbers that their sum is beyond 2^80.
func TestKeptOfManyNumbers(t *testing.T) {
	const n = 1 << 18
	for _, x := range []int64{last, first, 1 << 62, 1, -1} {
		list := slices.Repeat([]int64{x}, n)
		half := make([]int64, 0, 2*n)
		for range n {
			half = append(half, x/2, x-x/2)
		}
		a, b := api.Sea{Water: list, Tracer: half}, api.Sea{Water: half, Tracer: list}
		if !keeps(t, fmt.Sprint(n, " times ", x), a, b) {
			t.Errorf("%d times %d isn't kept", n, x)
		}
		for _, at := range []int{0, n, 2*n - 1} {
			half[at]++
			if keeps(t, fmt.Sprint(n, " times ", x, " and 1"), a, water(0, list...)) || Kept(b, water(0, list...)) {
				t.Errorf("%d times %d: one more at %d", n, x, at)
			}
			half[at]--
		}
	}
}

// P26.1, P26.3: raw seas of all kinds, against the model; parted sums are kept, and 1 or 2^64 more aren't.
func TestKeptAgainstTheModel(t *testing.T) {
	pick := newPicker()
	for k := range 5000 {
		a := api.Sea{Water: pick.quanta(pick.below(9)), Tracer: pick.quanta(pick.below(9)), Sky: pick.quanta(1)[0]}
		b := api.Sea{Water: pick.parted(append(a.Water, a.Sky)), Tracer: pick.parted(a.Tracer)}
		if !keeps(t, k, a, b) || !keeps(t, k, a, a) || !Kept(b, b) {
			t.Fatalf("sea %d isn't kept", k)
		}
		c := api.Sea{Water: pick.quanta(pick.below(9)), Tracer: a.Tracer, Sky: a.Sky}
		keeps(t, k, a, c)
		for _, more := range [][]int64{{1}, {-1}, {last, last, 2}, {first, first}, {last, 1}, {first}} {
			x, y := b, b
			x.Water, y.Tracer = append(slices.Clone(b.Water), more...), append(slices.Clone(b.Tracer), more...)
			if keeps(t, k, a, x) || keeps(t, k, a, y) {
				t.Fatalf("sea %d with %v more is kept", k, more)
			}
		}
	}
}

// P26.3: an equality, of each three of many seas whose sums often are the same.
func TestKeptIsAnEquality(t *testing.T) {
	var seas []api.Sea
	for _, sky := range []int64{0, 1, last, first} {
		for _, list := range [][]int64{nil, {}, {1}, {-1}, {last}, {first}, {last, 1}, {last, last, 2}, {first, first}, {1, 0, -1}, {-last, 1}} {
			seas = append(seas, water(sky, list...), api.Sea{Sky: sky, Water: []int64{1}, Tracer: list})
		}
	}
	kept := make([][]bool, len(seas))
	for k, a := range seas {
		for _, b := range seas {
			kept[k] = append(kept[k], keeps(t, "any two", a, b))
		}
	}
	alike := 0
	for k := range seas {
		if !kept[k][k] {
			t.Errorf("sea %d isn't kept in itself", k)
		}
		for n := range seas {
			if kept[k][n] != kept[n][k] {
				t.Errorf("seas %d and %d: not both ways", k, n)
			}
			if kept[k][n] && k != n {
				alike++
			}
			for m := range seas {
				if kept[k][n] && kept[n][m] && !kept[k][m] {
					t.Errorf("seas %d, %d, %d: not through the second", k, n, m)
				}
			}
		}
	}
	if alike < 50 {
		t.Errorf("%d of %d pairs are alike", alike, len(seas)*len(seas))
	}
}

// P26.3: of seas that can be, Kept is what their reports say.
func TestKeptByReports(t *testing.T) {
	pick := newPicker()
	g := netOf(t, 2)
	var seas []api.Sea
	for k := range 36 {
		s := pick.sea(g, k%kinds)
		other := empty(1 + k%3) // the same quanta, elsewhere
		other.Water[k%6], other.Sky = total(s.Water).Int64(), s.Sky
		other.Tracer[5-k%6] = total(s.Tracer).Int64()
		more, unlike := empty(1), empty(1)
		more.Sky, more.Tracer = min(most, total(s.Water).Int64()+s.Sky+1), other.Tracer[:6]
		unlike.Sky, unlike.Tracer[k%6] = total(s.Water).Int64()+s.Sky, max(0, total(s.Tracer).Int64()-1)
		seas = append(seas, s, other, more, unlike)
	}
	reports := make([]api.Report, len(seas))
	for k, s := range seas {
		reports[k] = reported(t, k, int(math.Sqrt(float64(len(s.Bed)/6))), s)
	}
	alike := 0
	for k, a := range seas {
		for n, b := range seas {
			want := reports[k].Water == reports[n].Water && reports[k].Tracer == reports[n].Tracer
			if keeps(t, "seas that can be", a, b) != want {
				t.Errorf("seas %d and %d: the reports say %v", k, n, want)
			}
			if want && k != n {
				alike++
			}
		}
	}
	if alike < 2*36 {
		t.Errorf("%d pairs are alike", alike)
	}
}

// P26.1: a step keeps what there is (P3).
func TestStepsKeep(t *testing.T) {
	pick := newPicker()
	for _, side := range []int{1, 2, 3, 5} {
		g := netOf(t, side)
		p := planOf(side)
		p.Rivers, p.Rains = true, []api.Rain{{Cell: 1, Amount: 1000, To: last}, {Cell: 2, Amount: -500, To: last}}
		for kind := range kinds {
			s := pick.sea(g, kind)
			next, errno := step.One(g, p, s)
			if errno != api.OK || !keeps(t, kind, s, next) {
				t.Errorf("side %d, kind %d: %d", side, kind, errno)
			}
		}
	}
}
