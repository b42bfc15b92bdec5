package step

import (
	"slices"
	"sync"
	"testing"

	"tarn/api"
	"tarn/grid"
	"tarn/state"
)

// roomy: the list with spare room behind it that isn't empty.
func roomy[T any](list []T) []T { return append(slices.Clone(list), list...)[:len(list)] }

func whole[T any](list []T) []T { return list[:cap(list)] }

// spoil the list and its spare room.
func spoil[T any](list []T, by T) {
	room := whole(list)
	for k := range room {
		room[k] = by
	}
}

func spoiled[T comparable](list []T, by T) bool {
	return !slices.ContainsFunc(whole(list), func(x T) bool { return x != by })
}

func roomySea(s api.Sea) api.Sea {
	s.Bed, s.Water, s.Tracer, s.Speed = roomy(s.Bed), roomy(s.Water), roomy(s.Tracer), roomy(s.Speed)
	return s
}

// wholeSea: a sea with the spare room of its lists.
func wholeSea(s api.Sea) api.Sea {
	s.Bed, s.Water, s.Tracer, s.Speed = whole(s.Bed), whole(s.Water), whole(s.Tracer), whole(s.Speed)
	return s
}

// spoilSea: each list by another number.
func spoilSea(s api.Sea) {
	spoil(s.Bed, -5)
	spoil(s.Water, -6)
	spoil(s.Tracer, -7)
	spoil(s.Speed, -8)
}

func spoilFlow(f api.Flow) {
	spoil(f.Water, -9)
	spoil(f.Tracer, -10)
}

// apart: whether no two lists of these answers share memory, spare room too.
func apart(s api.Sea, f api.Flow) bool {
	spoilSea(s)
	spoilFlow(f)
	return spoiled(s.Bed, -5) && spoiled(s.Water, -6) && spoiled(s.Tracer, -7) && spoiled(s.Speed, -8) && spoiled(f.Water, -9) && spoiled(f.Tracer, -10)
}

func copyFlow(f api.Flow) api.Flow {
	return api.Flow{Water: slices.Clone(f.Water), Tracer: slices.Clone(f.Tracer)}
}

// plansForMemory: with and without each kind of weather, since what isn't done might hand on what it was given.
func plansForMemory(p *picker, g *grid.Grid) []api.Plan {
	var out []api.Plan
	for _, rains := range [][]api.Rain{nil, {{Cell: 1, Amount: 9}}, {{Cell: 1, Amount: 9, To: last}, {Cell: 2, Amount: -9, To: last}}} {
		for _, rivers := range []bool{false, true} {
			plan := p.plan(g, gentle)
			plan.Rains, plan.Rivers = roomy(rains), rivers
			out = append(out, plan)
		}
	}
	return out
}

// P21.6: no call changes what it is given, spare room too; changing that later changes no answer, and changing an answer
// changes neither that nor another answer.
func TestWhatIsHandedInStays(t *testing.T) {
	p := newPicker()
	g := made(t, 2)
	for k := range 5 * kinds {
		for _, plan := range plansForMemory(p, g) {
			s := roomySea(p.sea(g, k%kinds))
			if k%5 == 4 {
				s = roomySea(pond(g, 1)) // at rest: nothing has to be made anew
			}
			before, rains := state.Copy(wholeSea(s)), slices.Clone(whole(plan.Rains))
			next, flow := stepped(t, "memory", g, plan, s)
			kept, keptFlow := state.Copy(next), copyFlow(flow)
			again, _ := One(g, plan, s)
			flowAgain, _ := Flow(g, plan, s)
			if !same(again, kept) || !sameFlow(flowAgain, keptFlow) {
				t.Fatal("a second call answers otherwise")
			}
			if !apart(again, flowAgain) {
				t.Fatal("two lists of an answer share memory")
			}
			if !same(wholeSea(s), before) || !slices.Equal(whole(plan.Rains), rains) {
				t.Fatal("what was handed in has changed")
			}
			spoilSea(s)
			spoil(plan.Rains, api.Rain{Cell: -1})
			if !same(next, kept) || !sameFlow(flow, keptFlow) {
				t.Fatal("an answer hangs on what was handed in, or on another answer")
			}
		}
	}
}

// P21.6: what is refused isn't changed.
func TestWhatIsRefusedStays(t *testing.T) {
	g := made(t, 1)
	for _, x := range append(planFaults(), seaFaults()...) {
		p, s := sound(g)
		x.make(&p, &s)
		s, p.Rains = roomySea(s), roomy(p.Rains)
		before, rains := words(wholeSea(s)), slices.Clone(whole(p.Rains))
		for _, net := range []*grid.Grid{nil, g} {
			One(net, p, s)
			Flow(net, p, s)
		}
		if !slices.Equal(words(wholeSea(s)), before) || !slices.Equal(whole(p.Rains), rains) {
			t.Errorf("%s: what was refused has changed", x.what)
		}
	}
}

// P21.6: water and tracer may be one list, and beds and speeds parts of one; the answers have lists of their own all the same.
func TestOneListForTwo(t *testing.T) {
	g := made(t, 2)
	both, quanta := make([]float64, 72), make([]int64, 24)
	for k := range both {
		both[k] = float64(k%7) / 4
	}
	for k := range quanta {
		quanta[k] = int64(k) << 20
	}
	s := api.Sea{Bed: both[:24], Speed: both[24:], Water: quanta, Tracer: quanta}
	before := words(s)
	for _, p := range plansForMemory(newPicker(), g) {
		next, flow := stepped(t, "one list for two", g, p, s)
		if !apart(next, flow) {
			t.Errorf("by %v two lists share memory", p)
		}
	}
	if !slices.Equal(words(s), before) {
		t.Error("what was handed in has changed")
	}
}

// Calls at the same time, over the same net, plan and sea, answer the same.
func TestCallsAtTheSameTime(t *testing.T) {
	p := newPicker()
	g := made(t, 3)
	plan, s := p.plan(g, gentle), p.sea(g, gentle)
	want, wantFlow := stepped(t, "alone", g, plan, s)
	seas, flows := make([]api.Sea, 8), make([]api.Flow, 8)
	var calls sync.WaitGroup
	for k := range seas {
		calls.Go(func() {
			seas[k], _ = One(g, plan, s)
			flows[k], _ = Flow(g, plan, s)
		})
	}
	calls.Wait()
	for k := range seas {
		if !same(seas[k], want) || !sameFlow(flows[k], wantFlow) {
			t.Errorf("call %d answered otherwise", k)
		}
	}
}
