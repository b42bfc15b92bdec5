package state

import (
	"math"
	"slices"
	"sync"
	"testing"

	"tarn/api"
)

const (
	last  = math.MaxInt64
	first = math.MinInt64
	most  = 1 << 52
	least = math.SmallestNonzeroFloat64
)

var (
	inf       = math.Inf(1)
	minusZero = math.Copysign(0, -1)
	nan       = math.NaN()
)

func up(x float64) float64 { return math.Nextafter(x, inf) }

func down(x float64) float64 { return math.Nextafter(x, -inf) }

func nans() []float64 {
	var out []float64
	for _, b := range []uint64{0x7ff0000000000001, 0x7ff8000000000000, api.QuietNaN, 0x7fffffffffffffff} {
		out = append(out, math.Float64frombits(b), math.Float64frombits(b|signBit))
	}
	return out
}

// floats: at the edges that the chapter names and just beside them, of both signs, and NaNs.
func floats() []float64 {
	var out []float64
	for _, x := range []float64{0, least, 2 * least, 0x1p-1022, 0.1, 1, 1023, 1024, 1025, 1048575, 1048576, 1048577, 0x1p52, 0x1p53, math.MaxFloat64, inf} {
		out = append(out, x, down(x), up(x), -x, -down(x), -up(x))
	}
	return append(out, nans()...)
}

// ints: at the edges that the chapter names, and just beside them.
func ints() []int {
	return []int{first, first + 1, -most - 1, -most, -33, -2, -1, 0, 1, 2, 3, 4, 5, 22, 23, 24, 25, 31, 32, 33, 34, 1 << 31, 1 << 32, 1<<32 + 1, most - 1, most, most + 1,
		1 << 53, 1<<62 - 1, 1 << 62, 1<<62 + 1, last - 1, last}
}

// picker: numbers by a rule of its own, the same ones every time.
type picker uint64

func newPicker() *picker {
	p := picker(0x9e3779b97f4a7c15)
	return &p
}

func (p *picker) next() uint64 {
	s := uint64(*p)
	s ^= s << 13
	s ^= s >> 7
	s ^= s << 17
	*p = picker(s)
	return s
}

// below: from 0 up to ahead of n.
func (p *picker) below(n int) int { return int(p.next() >> 11 % uint64(n)) }

// float from -top to top that a sea keeps.
func (p *picker) float(top float64) float64 {
	x := []float64{0, top, -top, down(top), least, -least, 1, -1}[p.below(8)]
	if p.below(2) == 0 {
		x = top * (2*float64(p.next()>>11)/(1<<53) - 1)
	}
	if x == 0 {
		return 0
	}
	return x
}

// share of room that is left: often nothing, sometimes all.
func (p *picker) share(room int64) int64 {
	switch p.below(8) {
	case 0, 1, 2:
		return 0
	case 3:
		if p.below(40) == 0 {
			return room
		}
	}
	return int64(p.next() >> (12 + p.below(52)) % uint64(room+1))
}

// sea that can be.
func (p *picker) sea(side int) api.Sea {
	s := zero(side)
	s.Sky, s.Step = p.share(most), []int{0, 1, 9, 1<<62 - 1, 1 << 62}[p.below(5)]
	water, tracer := most-s.Sky, int64(most)
	for cell := range s.Bed {
		s.Bed[cell], s.Water[cell], s.Tracer[cell] = p.float(1<<20), p.share(water), p.share(tracer)
		water -= s.Water[cell]
		tracer -= s.Tracer[cell]
	}
	for e := range s.Speed {
		s.Speed[e] = p.float(1 << 10)
	}
	return s
}

// zero: the chapter's Z, of any side, also of one that there isn't.
func zero(side int) api.Sea {
	cells := 6 * side * side
	return api.Sea{Bed: make([]float64, cells), Water: make([]int64, cells), Tracer: make([]int64, cells), Speed: make([]float64, 2*cells)}
}

// with: Z of side 1, changed.
func with(change func(s *api.Sea)) api.Sea {
	s := zero(1)
	change(&s)
	return s
}

func empty(s api.Sea) bool { return modelSame(s, api.Sea{}) }

func sameBits(a, b float64) bool { return math.Float64bits(a) == math.Float64bits(b) }

// The chapter's examples.
func TestExamples(t *testing.T) {
	for k, r := range []struct {
		side int
		s    api.Sea
		at   int
		e    api.Errno
	}{
		{1, zero(1), 0, api.OK},
		{0, zero(1), 0, api.ErrSide},
		{2, zero(1), 0, api.ErrSize},
		{1, with(func(s *api.Sea) { s.Speed = s.Speed[:11] }), 3, api.ErrSize},
		{1, with(func(s *api.Sea) { s.Bed[4], s.Water[0] = nan, -1 }), 4, api.ErrBed},
		{1, with(func(s *api.Sea) { s.Sky, s.Water[0] = -1, -1 }), 0, api.ErrSky},
		{1, with(func(s *api.Sea) { s.Sky, s.Water[2] = api.MaxWater, 1 }), 2, api.ErrWater},
		{1, with(func(s *api.Sea) { s.Speed[11] = minusZero }), 11, api.ErrSpeed},
		{1, with(func(s *api.Sea) { s.Step = -1 }), 0, api.ErrArg},
	} {
		if at, e := Check(r.side, r.s); at != r.at || e != r.e {
			t.Errorf("row %d: Check is %d, %d, want %d, %d", k, at, e, r.at, r.e)
		}
	}
	for k, r := range []struct {
		p api.Plan
		e api.Errno
	}{
		{api.Plan{Side: 1, Dt: 0.5, Gravity: 10}, api.OK},
		{api.Plan{Side: 1, Dt: 0, Gravity: 10}, api.ErrPlan},
		{api.Plan{Side: 1, Dt: nan, Gravity: 10}, api.ErrPlan},
		{api.Plan{Side: 1, Dt: 0.5, Gravity: minusZero}, api.ErrPlan},
		{api.Plan{Side: 1, Dt: 0.5, Gravity: 10, Drag: 1025}, api.ErrPlan},
		{api.Plan{Side: 1, Dt: 0.5, Gravity: 10, Limiter: 4}, api.ErrPlan},
		{api.Plan{Side: 0, Dt: 0}, api.ErrSide},
	} {
		if e := Plan(r.p); e != r.e {
			t.Errorf("row %d: Plan is %d, want %d", k, e, r.e)
		}
	}
	if !Same(api.Sea{}, api.Sea{Bed: []float64{}, Water: []int64{}, Tracer: []int64{}, Speed: []float64{}}) {
		t.Error("a sea without lists and one with empty lists aren't the same")
	}
	if Same(zero(1), with(func(s *api.Sea) { s.Speed[5] = minusZero })) {
		t.Error("speeds that differ in the sign of a nought are the same")
	}
	if s, e := Lake(1, make([]float64, 6), 1); e != api.OK || !slices.Equal(s.Water, slices.Repeat([]int64{1431655765}, 6)) {
		t.Errorf("a lake: %v, %d", s.Water, e)
	}
	if s, e := Lake(1, make([]float64, 6), 0x1p20); e != api.ErrWater || !empty(s) {
		t.Errorf("a deep lake: %v, %d", s, e)
	}
	if s, e := Lake(1, make([]float64, 6), nan); e != api.ErrArg || !empty(s) {
		t.Errorf("a lake without a level: %v, %d", s, e)
	}
}

// roomy: the list with spare room behind it that isn't empty.
func roomy[T any](list []T) []T { return append(slices.Clone(list), list...)[:len(list)] }

func whole[T any](list []T) []T { return list[:cap(list)] }

// spoil the list and its spare room.
func spoil[T any](list []T, by T) {
	room := whole(list)
	for k := range room {
		room[k] = by
	}
}

// roomySea: a sea the lists of which have spare room.
func roomySea(s api.Sea) api.Sea {
	s.Bed, s.Water, s.Tracer, s.Speed = roomy(s.Bed), roomy(s.Water), roomy(s.Tracer), roomy(s.Speed)
	return s
}

// wholeSea: a sea with the spare room of its lists.
func wholeSea(s api.Sea) api.Sea {
	s.Bed, s.Water, s.Tracer, s.Speed = whole(s.Bed), whole(s.Water), whole(s.Tracer), whole(s.Speed)
	return s
}

func spoilSea(s api.Sea) {
	spoil(s.Bed, -7)
	spoil(s.Water, -7)
	spoil(s.Tracer, -8)
	spoil(s.Speed, -9)
}

// listsApart: whether no two lists of a sea share memory, spare room too.
func listsApart(s api.Sea) bool {
	spoilSea(s)
	all := func(list []float64, x float64) bool {
		return !slices.ContainsFunc(whole(list), func(y float64) bool { return y != x })
	}
	every := func(list []int64, n int64) bool {
		return !slices.ContainsFunc(whole(list), func(m int64) bool { return m != n })
	}
	return all(s.Bed, -7) && every(s.Water, -7) && every(s.Tracer, -8) && all(s.Speed, -9)
}

// answers: what Copy and Turned make of a sea of side 2, and what Lake makes of its beds, one behind the other.
func answers(s api.Sea) []api.Sea {
	out := []api.Sea{Copy(s)}
	for turn := range 24 {
		turned, _ := Turned(2, s, turn)
		out = append(out, turned)
	}
	lake, _ := Lake(2, s.Bed, 100)
	return append(out, lake)
}

// lowSea: one that can be, of side 2, with beds over which a lake of level 100 can be.
func lowSea(p *picker) api.Sea {
	s := p.sea(2)
	for cell := range s.Bed {
		s.Bed[cell] = p.float(1000)
	}
	return s
}

// P20.5: what is handed in isn't changed by any call, be it taken or refused, and what was answered hangs neither on it nor
// on what is answered later.
func TestWhatIsHandedInStays(t *testing.T) {
	p := newPicker()
	for range 20 {
		s := roomySea(lowSea(p))
		before := Copy(wholeSea(s))
		got := answers(s)
		var kept []api.Sea
		for _, x := range got {
			if len(x.Bed) != 24 || len(x.Water) != 24 || len(x.Tracer) != 24 || len(x.Speed) != 48 {
				t.Fatalf("an answer of %d, %d, %d, %d numbers", len(x.Bed), len(x.Water), len(x.Tracer), len(x.Speed))
			}
			kept = append(kept, Copy(x))
		}
		for _, x := range answers(s) {
			if !listsApart(x) {
				t.Fatal("two lists of an answer share memory")
			}
		}
		Check(2, s)
		Check(1, s)
		Same(s, s)
		Turned(2, s, 24)
		Lake(2, s.Bed, nan)
		Lake(2, s.Bed, 0x1p20)
		if !modelSame(wholeSea(s), before) {
			t.Fatal("what was handed in has changed")
		}
		spoilSea(s)
		for k := range got {
			if !modelSame(got[k], kept[k]) {
				t.Fatalf("answer %d hangs on what was handed in, or on a later answer", k)
			}
		}
	}
}

// P20.5: of Plan, and of seas that can't be.
func TestWhatIsRefusedStays(t *testing.T) {
	rains := roomy([]api.Rain{{Cell: 1, Amount: 2, From: 3, To: 4}, {Cell: 6}, {Cell: 5}})
	before := slices.Clone(whole(rains))
	Plan(api.Plan{Side: 1, Dt: 1, Rains: rains})
	Plan(api.Plan{Side: 2, Dt: 1, Rains: rains})
	if !slices.Equal(whole(rains), before) {
		t.Error("rains have changed")
	}
	for _, change := range []func(s *api.Sea){
		func(s *api.Sea) { s.Bed[3], s.Speed[3] = nan, minusZero },
		func(s *api.Sea) { s.Water[3], s.Tracer[3] = -1, -1 },
		func(s *api.Sea) { s.Sky, s.Step = -1, -1 },
	} {
		s := roomySea(with(change))
		old := wholeSea(s)
		old.Bed, old.Water, old.Tracer, old.Speed = slices.Clone(old.Bed), slices.Clone(old.Water), slices.Clone(old.Tracer), slices.Clone(old.Speed)
		Check(1, s)
		Turned(1, s, 1)
		Lake(1, s.Bed, 1)
		Same(s, Copy(s))
		if !modelSame(wholeSea(s), old) {
			t.Errorf("%v has become %v", old, wholeSea(s))
		}
	}
}

// P20.5: water and tracer may be one list, and beds and speeds parts of one; the answers have four lists all the same.
func TestOneListForTwo(t *testing.T) {
	both, quanta := make([]float64, 72), make([]int64, 24)
	for k := range both {
		both[k] = float64(k)
	}
	for k := range quanta {
		quanta[k] = int64(k)
	}
	s := api.Sea{Bed: both[:24], Speed: both[24:], Water: quanta, Tracer: quanta}
	before := words(s)
	for k, x := range answers(s) {
		if !listsApart(x) {
			t.Errorf("answer %d: two lists share memory", k)
		}
	}
	if !slices.Equal(words(s), before) {
		t.Error("what was handed in has changed")
	}
}

// Calls at the same time, over the same lists, answer the same.
func TestCallsAtTheSameTime(t *testing.T) {
	s := lowSea(newPicker())
	want := answers(s)
	got := make([][]api.Sea, 8)
	var calls sync.WaitGroup
	for k := range got {
		calls.Go(func() { got[k] = answers(s) })
	}
	calls.Wait()
	for k := range got {
		if !slices.EqualFunc(got[k], want, modelSame) {
			t.Errorf("call %d answered other seas", k)
		}
	}
}
