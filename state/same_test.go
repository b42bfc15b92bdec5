package state

import (
	"math"
	"slices"
	"testing"

	"tarn/api"
)

// alike: whether both are the same, held against the model, both ways.
func alike(t *testing.T, a, b api.Sea) bool {
	t.Helper()
	same := Same(a, b)
	if same != modelSame(a, b) {
		t.Errorf("Same is %v of %v and %v", same, a, b)
	}
	if Same(b, a) != same {
		t.Errorf("Same is %v of %v and %v, but not the other way round", same, a, b)
	}
	return same
}

// P20.1: nil and empty lists, in each of the four places.
func TestSameOfNothing(t *testing.T) {
	noFloats, noQuanta := [][]float64{nil, {}, make([]float64, 3)[:0]}, [][]int64{nil, {}, make([]int64, 3)[:0]}
	var all []api.Sea
	for _, bed := range noFloats {
		for _, water := range noQuanta {
			for _, tracer := range noQuanta {
				for _, speed := range noFloats {
					all = append(all, api.Sea{Bed: bed, Water: water, Tracer: tracer, Speed: speed})
				}
			}
		}
	}
	for _, a := range all {
		for _, b := range all {
			if !alike(t, a, b) {
				t.Fatal("two seas without numbers aren't the same")
			}
		}
		for k, b := range []api.Sea{
			{Bed: []float64{0}}, {Water: []int64{0}}, {Tracer: []int64{0}}, {Speed: []float64{0}}, {Sky: 1}, {Step: 1},
		} {
			if alike(t, a, b) {
				t.Fatalf("row %d: a sea without numbers is the same as one with one", k)
			}
		}
	}
}

// P20.1: floats by their bits, in the beds and in the speeds.
func TestSameOfFloats(t *testing.T) {
	all := append(floats(), 0.5, 0.25)
	for _, x := range all {
		for _, y := range all {
			same := sameBits(x, y)
			a, b := with(func(s *api.Sea) { s.Bed[5] = x }), with(func(s *api.Sea) { s.Bed[5] = y })
			if alike(t, a, b) != same {
				t.Errorf("beds %x and %x: %v", math.Float64bits(x), math.Float64bits(y), !same)
			}
			a, b = with(func(s *api.Sea) { s.Speed[11] = x }), with(func(s *api.Sea) { s.Speed[11] = y })
			if alike(t, a, b) != same {
				t.Errorf("speeds %x and %x: %v", math.Float64bits(x), math.Float64bits(y), !same)
			}
		}
	}
	if Same(with(func(s *api.Sea) { s.Bed[0] = 0 }), with(func(s *api.Sea) { s.Bed[0] = minusZero })) {
		t.Error("noughts of both signs are the same")
	}
	if x := math.Float64frombits(0x7ff0000000000001); !Same(api.Sea{Bed: []float64{x}}, api.Sea{Bed: []float64{x}}) || Same(api.Sea{Bed: []float64{x}}, api.Sea{Bed: []float64{nan}}) {
		t.Error("NaNs")
	}
}

// P20.1: whole numbers, of which no bit is left out.
func TestSameOfWholeNumbers(t *testing.T) {
	for _, n := range ints() {
		for bit := range 65 {
			m := n
			if bit < 64 {
				m ^= 1 << bit
			}
			for k, two := range [][2]api.Sea{
				{with(func(s *api.Sea) { s.Water[2] = int64(n) }), with(func(s *api.Sea) { s.Water[2] = int64(m) })},
				{with(func(s *api.Sea) { s.Tracer[2] = int64(n) }), with(func(s *api.Sea) { s.Tracer[2] = int64(m) })},
				{{Sky: int64(n)}, {Sky: int64(m)}},
				{{Step: n}, {Step: m}},
			} {
				if alike(t, two[0], two[1]) != (n == m) {
					t.Errorf("row %d: %d and %d", k, n, m)
				}
			}
		}
	}
}

// P20.1: one number changed, at each place of each list; lists of unlike lengths, and numbers that stand in another list.
func TestSameOfUnlikeLists(t *testing.T) {
	s := newPicker().sea(2)
	unlike := func(what string, change func(x *api.Sea)) {
		t.Helper()
		x := Copy(s)
		change(&x)
		if alike(t, s, x) {
			t.Errorf("%s: the same", what)
		}
	}
	for cell := range s.Bed {
		unlike("a bed", func(x *api.Sea) { x.Bed[cell] += 0.5 })
		unlike("a water", func(x *api.Sea) { x.Water[cell]++ })
		unlike("a tracer", func(x *api.Sea) { x.Tracer[cell]-- })
	}
	for e := range s.Speed {
		unlike("a speed", func(x *api.Sea) { x.Speed[e] += 0.5 })
	}
	for _, list := range others(s.Bed) {
		unlike("beds", func(x *api.Sea) { x.Bed = list })
	}
	for _, list := range others(s.Water) {
		unlike("waters", func(x *api.Sea) { x.Water = list })
	}
	for _, list := range others(s.Tracer) {
		unlike("tracers", func(x *api.Sea) { x.Tracer = list })
	}
	for _, list := range others(s.Speed) {
		unlike("speeds", func(x *api.Sea) { x.Speed = list })
	}
	unlike("waters for tracers", func(x *api.Sea) { x.Water, x.Tracer = x.Tracer, x.Water })
	unlike("sky", func(x *api.Sea) { x.Sky++ })
	unlike("step", func(x *api.Sea) { x.Step++ })
	if alike(t, api.Sea{Water: []int64{1}}, api.Sea{Tracer: []int64{1}}) || alike(t, api.Sea{Bed: []float64{1}}, api.Sea{Speed: []float64{1}}) {
		t.Error("a number in another list is the same")
	}
	if alike(t, api.Sea{Water: []int64{1, 2}, Tracer: []int64{3}}, api.Sea{Water: []int64{1}, Tracer: []int64{2, 3}}) {
		t.Error("the lists are held against each other as one")
	}
}

// fewSeas: any raw ones, many of them the same.
func fewSeas(p *picker) []api.Sea {
	fs, ns := []float64{0, minusZero, nan, math.Float64frombits(0x7ff8000000000002)}, []int64{0, -1}
	var out []api.Sea
	for range 150 {
		s := api.Sea{Sky: ns[p.below(2)]}
		for range p.below(3) {
			s.Bed = append(s.Bed, fs[p.below(4)])
		}
		for range p.below(2) {
			s.Water = append(s.Water, ns[p.below(2)])
		}
		if p.below(4) == 0 {
			s.Speed = []float64{fs[p.below(4)]}
		}
		out = append(out, s)
	}
	return out
}

// P20.2: of each sea and itself; both ways; from one to a third through a second.
func TestSameIsAnEquality(t *testing.T) {
	all := fewSeas(newPicker())
	pairs := 0
	for i, a := range all {
		if !alike(t, a, a) || !alike(t, a, Copy(a)) {
			t.Fatalf("sea %d isn't the same as itself and its copy", i)
		}
		for j, b := range all {
			same := alike(t, a, b)
			if same && i != j {
				pairs++
			}
			for _, c := range all {
				if same && Same(b, c) != Same(a, c) {
					t.Fatalf("seas %d and %d are the same, but not to a third", i, j)
				}
			}
		}
	}
	if pairs < 100 {
		t.Errorf("only %d pairs are the same", pairs)
	}
}

// P20.1, P20.2: of seas that can be, and of raw ones.
func TestCopy(t *testing.T) {
	p := newPicker()
	all := append(fewSeas(p), api.Sea{}, api.Sea{Sky: first, Step: last}, api.Sea{Bed: nans(), Speed: floats(), Water: []int64{last, first}, Tracer: []int64{-1}})
	for side := 1; side <= 6; side++ {
		all = append(all, p.sea(side))
	}
	for k, s := range all {
		s = roomySea(s)
		before := slices.Clone(words(s))
		x := Copy(s)
		if !Same(s, x) || !slices.Equal(words(x), before) {
			t.Errorf("sea %d: the copy of %v is %v", k, s, x)
		}
		spoilSea(x)
		if !slices.Equal(words(s), before) {
			t.Errorf("sea %d hangs on its copy", k)
		}
		x = Copy(s)
		spoilSea(s)
		if !slices.Equal(words(x), before) {
			t.Errorf("the copy of sea %d hangs on it", k)
		}
	}
}
