package state

import (
	"slices"
	"testing"

	"tarn/api"
)

// checked: what Check answers, held against the model.
func checked(t *testing.T, what string, side int, s api.Sea) (int, api.Errno) {
	t.Helper()
	at, e := Check(side, s)
	if wantAt, want := modelCheck(side, s); at != wantAt || e != want {
		t.Errorf("%s: Check of side %d is %d, %d, by the model %d, %d", what, side, at, e, wantAt, want)
	}
	return at, e
}

// wrong: a fault of a sea of side 1, and how it is told.
type wrong struct {
	what string
	at   int
	e    api.Errno
	do   func(s *api.Sea)
}

// wrongs: in the chapter's order.
func wrongs() []wrong {
	return []wrong{
		{"a bed too few", 0, api.ErrSize, func(s *api.Sea) { s.Bed = s.Bed[:5] }},
		{"a bed too many", 0, api.ErrSize, func(s *api.Sea) { s.Bed = append(s.Bed, 0) }},
		{"a water too few", 1, api.ErrSize, func(s *api.Sea) { s.Water = s.Water[:5] }},
		{"a water too many", 1, api.ErrSize, func(s *api.Sea) { s.Water = append(s.Water, 0) }},
		{"a tracer too few", 2, api.ErrSize, func(s *api.Sea) { s.Tracer = s.Tracer[:5] }},
		{"a tracer too many", 2, api.ErrSize, func(s *api.Sea) { s.Tracer = append(s.Tracer, 0) }},
		{"a speed too few", 3, api.ErrSize, func(s *api.Sea) { s.Speed = s.Speed[:11] }},
		{"a speed too many", 3, api.ErrSize, func(s *api.Sea) { s.Speed = append(s.Speed, 0) }},
		{"bed 1 too high", 1, api.ErrBed, func(s *api.Sea) { s.Bed[1] = up(1048576) }},
		{"bed 2 too low", 2, api.ErrBed, func(s *api.Sea) { s.Bed[2] = down(-1048576) }},
		{"bed 3 -0", 3, api.ErrBed, func(s *api.Sea) { s.Bed[3] = minusZero }},
		{"bed 4 a NaN", 4, api.ErrBed, func(s *api.Sea) { s.Bed[4] = nan }},
		{"sky below 0", 0, api.ErrSky, func(s *api.Sea) { s.Sky = -1 }},
		{"sky above MaxWater", 0, api.ErrSky, func(s *api.Sea) { s.Sky = most + 1 }},
		{"water 1 below 0", 1, api.ErrWater, func(s *api.Sea) { s.Water[1] = -1 }},
		{"water 2 too much", 2, api.ErrWater, func(s *api.Sea) { s.Water[2] = most + 1 }},
		{"tracer 1 below 0", 1, api.ErrTracer, func(s *api.Sea) { s.Tracer[1] = -1 }},
		{"tracer 3 too much", 3, api.ErrTracer, func(s *api.Sea) { s.Tracer[3] = most + 1 }},
		{"speed 0 -0", 0, api.ErrSpeed, func(s *api.Sea) { s.Speed[0] = minusZero }},
		{"speed 4 too great", 4, api.ErrSpeed, func(s *api.Sea) { s.Speed[4] = up(1024) }},
		{"speed 8 too great, below 0", 8, api.ErrSpeed, func(s *api.Sea) { s.Speed[8] = down(-1024) }},
		{"speed 11 a NaN", 11, api.ErrSpeed, func(s *api.Sea) { s.Speed[11] = nan }},
		{"step -1", 0, api.ErrArg, func(s *api.Sea) { s.Step = -1 }},
		{"step MaxStep + 1", 0, api.ErrArg, func(s *api.Sea) { s.Step = 1<<62 + 1 }},
	}
}

// seasWithFaults: each fault alone, and with each later one beside it; what is to be told of each.
func seasWithFaults(try func(what string, s api.Sea, at int, e api.Errno)) {
	all := wrongs()
	for k, one := range all {
		try(one.what, with(one.do), one.at, one.e)
		for _, later := range all[k+1:] {
			both := with(func(s *api.Sea) { // the later one first: it may need a place that the other one takes away
				later.do(s)
				one.do(s)
			})
			try(one.what+" and "+later.what, both, one.at, one.e)
		}
	}
}

// P20.1: each error alone and with each later one beside it, and with a side that there isn't.
func TestCheckOfFaults(t *testing.T) {
	seasWithFaults(func(what string, s api.Sea, at int, e api.Errno) {
		if gotAt, got := checked(t, what, 1, s); gotAt != at || got != e {
			t.Errorf("%s: %d, %d, want %d, %d", what, gotAt, got, at, e)
		}
		for _, side := range []int{0, 33, -1} {
			if gotAt, got := Check(side, s); gotAt != 0 || got != api.ErrSide {
				t.Errorf("%s, side %d: %d, %d", what, side, gotAt, got)
			}
		}
	})
}

// P20.1: seas that fit and seas that don't, of all sides.
func TestCheckOfSides(t *testing.T) {
	for side := range 35 {
		want := api.OK
		if side < 1 || side > 32 {
			want = api.ErrSide
		}
		if at, e := checked(t, "a sea that fits", side, zero(side)); at != 0 || e != want {
			t.Errorf("side %d: %d, %d", side, at, e)
		}
		if side > 1 && side < 33 {
			if at, e := checked(t, "a sea of another side", side, zero(side-1)); at != 0 || e != api.ErrSize {
				t.Errorf("side %d, a sea of the side below: %d, %d", side, at, e)
			}
		}
	}
	for _, side := range ints() {
		checked(t, "any side", side, zero(1))
		checked(t, "any side, no lists", side, api.Sea{})
	}
	if at, e := Check(1, api.Sea{}); at != 0 || e != api.ErrSize {
		t.Errorf("a sea without lists: %d, %d", at, e)
	}
}

// others: lists that are nil, too short and too long, the spare room of which would do.
func others[T any](list []T) [][]T {
	long := append(slices.Clone(list), list[0])
	return [][]T{nil, {}, list[:1], list[:len(list)-1], list[1:], long, append(long, list...)}
}

// P20.1: each list too short and too long; those behind it, too.
func TestCheckOfSizes(t *testing.T) {
	for _, side := range []int{1, 2, 5} {
		fit := zero(side)
		expect := func(want int, change func(s *api.Sea)) {
			t.Helper()
			s := fit
			change(&s)
			if at, e := checked(t, "a size", side, s); at != want || e != api.ErrSize {
				t.Errorf("side %d: %d, %d, want %d, ErrSize", side, at, e, want)
			}
		}
		for _, list := range others(fit.Bed) {
			expect(0, func(s *api.Sea) { s.Bed = list })
			expect(0, func(s *api.Sea) { s.Bed, s.Water, s.Tracer, s.Speed = list, nil, nil, nil })
		}
		for _, list := range others(fit.Water) {
			expect(1, func(s *api.Sea) { s.Water = list })
			expect(1, func(s *api.Sea) { s.Water, s.Tracer, s.Speed = list, list, nil })
			expect(2, func(s *api.Sea) { s.Tracer = list })
			expect(2, func(s *api.Sea) { s.Tracer, s.Speed = list, nil })
		}
		for _, list := range others(fit.Speed) {
			expect(3, func(s *api.Sea) { s.Speed = list })
		}
		expect(3, func(s *api.Sea) { s.Speed = s.Bed })
		expect(0, func(s *api.Sea) { s.Bed = s.Speed })
	}
}

// P20.1: each float at each place of the beds and of the speeds, and two at fault in one list.
func TestCheckOfFloats(t *testing.T) {
	for _, x := range floats() {
		for cell := range 6 {
			at, e := checked(t, "a bed", 1, with(func(s *api.Sea) { s.Bed[cell] = x }))
			if modelKept(x, 1<<20) && e != api.OK || !modelKept(x, 1<<20) && (at != cell || e != api.ErrBed) {
				t.Errorf("bed %d = %x: %d, %d", cell, x, at, e)
			}
		}
		for edge := range 12 {
			at, e := checked(t, "a speed", 1, with(func(s *api.Sea) { s.Speed[edge] = x }))
			if modelKept(x, 1<<10) && e != api.OK || !modelKept(x, 1<<10) && (at != edge || e != api.ErrSpeed) {
				t.Errorf("speed %d = %x: %d, %d", edge, x, at, e)
			}
		}
		for _, y := range floats() {
			checked(t, "two beds", 1, with(func(s *api.Sea) { s.Bed[1], s.Bed[4] = x, y }))
			checked(t, "two speeds", 1, with(func(s *api.Sea) { s.Speed[3], s.Speed[10] = x, y }))
		}
	}
	for _, x := range []float64{1048576, -1048576, down(1048576), 0, least, -least} {
		if at, e := Check(1, with(func(s *api.Sea) { s.Bed[2] = x })); at != 0 || e != api.OK {
			t.Errorf("bed %x: %d, %d", x, at, e)
		}
	}
	for _, x := range []float64{1024, -1024, down(1024), 0, least, -least} {
		if at, e := Check(1, with(func(s *api.Sea) { s.Speed[2] = x })); at != 0 || e != api.OK {
			t.Errorf("speed %x: %d, %d", x, at, e)
		}
	}
	if at, e := Check(1, with(func(s *api.Sea) { s.Bed[5], s.Bed[2] = nan, minusZero })); at != 2 || e != api.ErrBed {
		t.Errorf("two beds at fault: %d, %d", at, e)
	}
	if at, e := Check(1, with(func(s *api.Sea) { s.Speed[7], s.Speed[6] = nan, 1025 })); at != 6 || e != api.ErrSpeed {
		t.Errorf("two speeds at fault: %d, %d", at, e)
	}
}

// P20.1: sky, waters and tracers at 0 and at MaxWater, just beside them, alone and added up.
func TestCheckOfQuanta(t *testing.T) {
	const half = most / 2
	for _, r := range []struct {
		sky           int64
		water, tracer []int64
		at            int
		e             api.Errno
	}{
		{0, nil, nil, 0, api.OK},
		{most, nil, nil, 0, api.OK},
		{most + 1, nil, nil, 0, api.ErrSky},
		{-1, nil, nil, 0, api.ErrSky},
		{first, nil, nil, 0, api.ErrSky},
		{last, nil, nil, 0, api.ErrSky},
		{0, []int64{0, 0, 0, 0, 0, most}, nil, 0, api.OK},
		{0, []int64{0, 0, 0, 0, 0, most + 1}, nil, 5, api.ErrWater},
		{1, []int64{0, 0, 0, 0, 0, most}, nil, 5, api.ErrWater},
		{1, []int64{0, 0, 0, 0, 0, most - 1}, nil, 0, api.OK},
		{most, []int64{0, 0, 1}, nil, 2, api.ErrWater},
		{most - 1, []int64{0, 0, 1}, nil, 0, api.OK},
		{most - 1, []int64{0, 0, 1, 0, 1}, nil, 4, api.ErrWater},
		{0, []int64{half, half, 0, 0, 0, 0}, nil, 0, api.OK},
		{0, []int64{half, half, 0, 0, 1, 0}, nil, 4, api.ErrWater},
		{0, []int64{half, half, -1, 1, 0, 0}, nil, 2, api.ErrWater},
		{0, []int64{0, -1, 0, -1}, nil, 1, api.ErrWater},
		{0, []int64{1, last}, nil, 1, api.ErrWater},
		{1, []int64{last}, nil, 0, api.ErrWater},
		{most, []int64{last}, nil, 0, api.ErrWater},
		{most, []int64{first}, nil, 0, api.ErrWater},
		{0, []int64{last, last, 2}, nil, 0, api.ErrWater}, // all wraps round to 0
		{0, []int64{first, first}, nil, 0, api.ErrWater},
		{0, []int64{most, last - most + 1}, nil, 1, api.ErrWater},
		{0, nil, []int64{0, 0, 0, 0, 0, most}, 0, api.OK},
		{0, nil, []int64{0, 0, 0, 0, 0, most + 1}, 5, api.ErrTracer},
		{0, nil, []int64{half, 0, half, 0, 0, 0}, 0, api.OK},
		{0, nil, []int64{half, 0, half, 0, 0, 1}, 5, api.ErrTracer},
		{0, nil, []int64{half, 0, half + 1}, 2, api.ErrTracer},
		{0, nil, []int64{half, 0, half, -1, 1}, 3, api.ErrTracer},
		{0, nil, []int64{0, 0, -1}, 2, api.ErrTracer},
		{0, nil, []int64{1, last}, 1, api.ErrTracer},
		{0, nil, []int64{last, last, 2}, 0, api.ErrTracer},
		{0, nil, []int64{first, first}, 0, api.ErrTracer},
		{most, nil, []int64{most}, 0, api.OK}, // the sky has no tracer
		{0, []int64{most}, []int64{0, most}, 0, api.OK},
		{0, []int64{0, 0, -1}, []int64{-1}, 2, api.ErrWater},
	} {
		s := zero(1)
		s.Sky = r.sky
		copy(s.Water, r.water)
		copy(s.Tracer, r.tracer)
		if at, e := checked(t, "quanta", 1, s); at != r.at || e != r.e {
			t.Errorf("sky %d, water %v, tracer %v: %d, %d, want %d, %d", r.sky, r.water, r.tracer, at, e, r.at, r.e)
		}
	}
}

// P20.1: so many cells that waters which each can be wrap round, if they are added up.
func TestCheckOfManyQuanta(t *testing.T) {
	for _, each := range []int64{most, 1 << 51, most / 6144, most/6144 + 1, 1 << 62} {
		s := zero(32)
		spoil(s.Water, each)
		checked(t, "waters", 32, s)
		s.Water, s.Tracer = s.Tracer, s.Water
		checked(t, "tracers", 32, s)
	}
	s := zero(32)
	spoil(s.Water, most)
	if at, e := Check(32, s); at != 1 || e != api.ErrWater {
		t.Errorf("all cells full: %d, %d", at, e)
	}
}

// P20.1: each whole number as a sky, a step, a water and a tracer.
func TestCheckOfWholeNumbers(t *testing.T) {
	for _, n := range ints() {
		checked(t, "a sky", 1, with(func(s *api.Sea) { s.Sky = int64(n) }))
		checked(t, "a step", 1, with(func(s *api.Sea) { s.Step = n }))
		for _, m := range ints() {
			checked(t, "sky and water", 1, with(func(s *api.Sea) { s.Sky, s.Water[3] = int64(n), int64(m) }))
			checked(t, "waters", 1, with(func(s *api.Sea) { s.Water[0], s.Water[5] = int64(n), int64(m) }))
			checked(t, "tracers", 1, with(func(s *api.Sea) { s.Tracer[0], s.Tracer[5] = int64(n), int64(m) }))
		}
	}
	for step, want := range map[int]api.Errno{-1: api.ErrArg, 0: api.OK, 1 << 62: api.OK, 1<<62 + 1: api.ErrArg, first: api.ErrArg, last: api.ErrArg} {
		if at, e := Check(1, with(func(s *api.Sea) { s.Step = step })); at != 0 || e != want {
			t.Errorf("step %d: %d, %d, want %d", step, at, e, want)
		}
	}
}

// disturb a sea by one number of it, or by the length of one of its lists.
func (p *picker) disturb(s *api.Sea) {
	fs, ns := floats(), ints()
	x, n := fs[p.below(len(fs))], ns[p.below(len(ns))]
	switch p.below(24) {
	case 0:
		s.Sky = int64(n)
	case 1:
		s.Step = n
	case 2:
		s.Bed = append(s.Bed, x)
	case 3:
		s.Water = s.Water[len(s.Water)/2:]
	case 4:
		s.Tracer = append(s.Tracer, 0)
	case 5:
		s.Speed = s.Speed[:len(s.Speed)/2]
	case 6, 7, 8, 9, 10:
		s.Bed[p.below(len(s.Bed))] = x
	case 11, 12, 13, 14:
		s.Water[p.below(len(s.Water))] = int64(n)
	case 15, 16, 17, 18:
		s.Tracer[p.below(len(s.Tracer))] = int64(n)
	default:
		s.Speed[p.below(len(s.Speed))] = x
	}
}

// P20.1: seas that can be, disturbed by up to three faults.
func TestCheckAgainstTheModel(t *testing.T) {
	p := newPicker()
	told := map[api.Errno]int{}
	for k := range 20000 {
		side := 1 + p.below(4)
		s := p.sea(side)
		if at, e := checked(t, "a sea that can be", side, s); at != 0 || e != api.OK {
			t.Fatalf("sea %d: %d, %d", k, at, e)
		}
		for range 1 + p.below(3) {
			p.disturb(&s)
		}
		_, e := checked(t, "disturbed", side, s)
		told[e]++
		if t.Failed() {
			t.Fatalf("sea %d", k)
		}
	}
	for _, e := range []api.Errno{api.OK, api.ErrSize, api.ErrBed, api.ErrSky, api.ErrWater, api.ErrTracer, api.ErrSpeed, api.ErrArg} {
		if told[e] < 100 {
			t.Errorf("error %d was told %d times alone", e, told[e])
		}
	}
}
