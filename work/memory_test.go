package work

import (
	"math"
	"slices"
	"sync"
	"testing"

	"tarn/api"
	"tarn/grid"
	"tarn/state"
)

// roomy: the list with spare room behind it that isn't empty.
func roomy[T any](list []T) []T { return append(slices.Clone(list), list...)[:len(list)] }

func whole[T any](list []T) []T { return list[:cap(list)] }

// spoil the list and its spare room.
func spoil[T any](list []T, by T) {
	room := whole(list)
	for k := range room {
		room[k] = by
	}
}

func spoiled[T comparable](list []T, by T) bool {
	return !slices.ContainsFunc(whole(list), func(x T) bool { return x != by })
}

func roomySea(s api.Sea) api.Sea {
	s.Bed, s.Water, s.Tracer, s.Speed = roomy(s.Bed), roomy(s.Water), roomy(s.Tracer), roomy(s.Speed)
	return s
}

// wholeSea: a sea with the spare room of its lists.
func wholeSea(s api.Sea) api.Sea {
	s.Bed, s.Water, s.Tracer, s.Speed = whole(s.Bed), whole(s.Water), whole(s.Tracer), whole(s.Speed)
	return s
}

// spoilSea: each list by another number.
func spoilSea(s api.Sea) {
	spoil(s.Bed, -5)
	spoil(s.Water, -6)
	spoil(s.Tracer, -7)
	spoil(s.Speed, -8)
}

// apart: whether no two lists of an answer share memory, spare room too.
func apart(s api.Sea) bool {
	spoilSea(s)
	return spoiled(s.Bed, -5) && spoiled(s.Water, -6) && spoiled(s.Tracer, -7) && spoiled(s.Speed, -8)
}

// calls: the two calls, by several numbers of parts.
func calls() []func(g *grid.Grid, p api.Plan, s api.Sea) (api.Sea, api.Errno) {
	var out []func(g *grid.Grid, p api.Plan, s api.Sea) (api.Sea, api.Errno)
	for _, n := range []int{1, 3, 24, 64} {
		out = append(out, func(g *grid.Grid, p api.Plan, s api.Sea) (api.Sea, api.Errno) { return One(g, p, s, n) })
		out = append(out, func(g *grid.Grid, p api.Plan, s api.Sea) (api.Sea, api.Errno) {
			return Scheduled(g, p, s, opposite(upTo(n)))
		})
	}
	return out
}

// plansForMemory: with and without each kind of weather, since what isn't done might hand on what it was given.
func plansForMemory(pick *picker, g *grid.Grid) []api.Plan {
	var out []api.Plan
	for _, rains := range [][]api.Rain{nil, {{Cell: 1, Amount: 9}}, {{Cell: 1, Amount: 9, To: last}, {Cell: 2, Amount: -9, To: last}}} {
		for _, rivers := range []bool{false, true} {
			plan := pick.plan(g, gentle)
			plan.Rains, plan.Rivers = roomy(rains), rivers
			out = append(out, plan)
		}
	}
	return out
}

// P23.3: no call changes what it is given, spare room too; changing that later changes no answer, and changing an answer
// changes neither that nor another answer; no two lists of one answer share memory.
func TestWhatIsHandedInStays(t *testing.T) {
	pick := newPicker()
	g := made(t, 2)
	for k := range kinds + 1 {
		for _, p := range plansForMemory(pick, g) {
			for n, call := range calls() {
				s := roomySea(pond(g)) // at rest: nothing has to be made anew
				if k < kinds {
					s = roomySea(pick.sea(g, k))
				}
				given := p
				given.Rains = roomy(p.Rains)
				want := behind(t, "memory", g, p, s)
				before, rains := state.Copy(wholeSea(s)), slices.Clone(whole(given.Rains))
				next, _ := call(g, given, s)
				again, errno := call(g, given, s)
				if errno != api.OK || !state.Same(next, want) || !state.Same(again, want) {
					t.Fatalf("kind %d, call %d: error %d; of two calls one answers otherwise", k, n, errno)
				}
				if !apart(again) {
					t.Fatalf("kind %d, call %d: two lists of an answer share memory", k, n)
				}
				if !state.Same(wholeSea(s), before) || !slices.Equal(whole(given.Rains), rains) {
					t.Fatalf("kind %d, call %d: what was handed in has changed", k, n)
				}
				spoilSea(s)
				spoil(given.Rains, api.Rain{Cell: -1})
				if !state.Same(next, want) {
					t.Fatalf("kind %d, call %d: an answer hangs on what was handed in, or on another answer", k, n)
				}
			}
		}
	}
}

// P23.3: the order stays what it is, its spare room too, taken or refused, and isn't kept.
func TestOrderStays(t *testing.T) {
	pick := newPicker()
	g := made(t, 2)
	p, s := pick.plan(g, gentle), pick.sea(g, gentle)
	want := behind(t, "an order", g, p, s)
	taken := [][]int{{0}, {2, 0, 1}, opposite(upTo(24)), pick.order(64)}
	for k, list := range append(taken, wrongOrders()...) {
		order := roomy(list)
		kept := slices.Clone(whole(order))
		next, errno := Scheduled(g, p, s, order)
		if !slices.Equal(whole(order), kept) {
			t.Fatalf("the order %v has changed", list)
		}
		spoil(order, -1)
		if ok := errno == api.OK; ok != (k < len(taken)) || ok && !state.Same(next, want) {
			t.Fatalf("order %v: %v, %d", list, next, errno)
		}
	}
}

// P23.3: what is refused isn't changed.
func TestWhatIsRefusedStays(t *testing.T) {
	g := made(t, 1)
	for _, x := range append(planFaults(), seaFaults()...) {
		p, s := sound(g)
		x.make(&p, &s)
		s, p.Rains = roomySea(s), roomy(p.Rains)
		before, rains := state.Copy(wholeSea(s)), slices.Clone(whole(p.Rains))
		for _, net := range []*grid.Grid{nil, g} {
			for _, call := range calls() {
				if _, errno := call(net, p, s); errno == api.OK {
					t.Fatalf("%s is taken", x.what)
				}
			}
			One(net, p, s, 0)
			Scheduled(net, p, s, nil)
		}
		if !state.Same(wholeSea(s), before) || !slices.Equal(whole(p.Rains), rains) {
			t.Errorf("%s: what was refused has changed", x.what)
		}
	}
}

// P23.3: water and tracer may be one list, and beds and speeds parts of one; the answers have lists of their own all the same.
func TestOneListForTwo(t *testing.T) {
	g := made(t, 2)
	both, quanta := make([]float64, 72), make([]int64, 24)
	for k := range both {
		both[k] = float64(k%7) / 4
	}
	for k := range quanta {
		quanta[k] = int64(k) << 20
	}
	s := api.Sea{Bed: both[:24], Speed: both[24:], Water: quanta, Tracer: quanta}
	before := state.Copy(s)
	for _, p := range plansForMemory(newPicker(), g) {
		want := behind(t, "one list for two", g, p, s)
		for n, call := range calls() {
			next, errno := call(g, p, s)
			if errno != api.OK || !state.Same(next, want) || !apart(next) {
				t.Errorf("call %d by %v: error %d", n, p, errno)
			}
		}
	}
	if !state.Same(s, before) {
		t.Error("what was handed in has changed")
	}
}

// P23.2: calls at the same time, over the same net, plan, sea and order, answer the same, again and again.
func TestCallsAtTheSameTime(t *testing.T) {
	pick := newPicker()
	for _, side := range []int{1, 3, 8} {
		g := made(t, side)
		for kind := range kinds {
			p, s := pick.plan(g, kind), pick.sea(g, kind)
			want, before := behind(t, "alone", g, p, s), state.Copy(s)
			seas := make([]api.Sea, 32)
			order := pick.order(7)
			var all sync.WaitGroup
			for k := range seas {
				all.Go(func() {
					if k%4 == 3 {
						seas[k], _ = Scheduled(g, p, s, order)
					} else {
						seas[k], _ = One(g, p, s, []int{2, 7, 64}[k%4])
					}
				})
			}
			all.Wait()
			for k := range seas {
				if !state.Same(seas[k], want) {
					t.Errorf("side %d, kind %d: call %d answered otherwise", side, kind, k)
				}
			}
			for k := range seas[1:] {
				spoil(seas[k].Speed, math.NaN())
				spoil(seas[k].Water, -1)
				spoil(seas[k].Tracer, -1)
				spoil(seas[k].Bed, -1)
			}
			if !state.Same(seas[len(seas)-1], want) || !state.Same(s, before) {
				t.Errorf("side %d, kind %d: calls at the same time share memory", side, kind)
			}
		}
	}
}
