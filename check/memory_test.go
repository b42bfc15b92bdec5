package check

import (
	"fmt"
	"slices"
	"sync"
	"testing"

	"tarn/api"
	"tarn/state"
)

// roomy: the list with spare room behind it that isn't empty.
func roomy[T any](list []T) []T { return append(slices.Clone(list), list...)[:len(list)] }

func whole[T any](list []T) []T { return list[:cap(list)] }

func roomySea(s api.Sea) api.Sea {
	s.Bed, s.Water, s.Tracer, s.Speed = roomy(s.Bed), roomy(s.Water), roomy(s.Tracer), roomy(s.Speed)
	return s
}

// wholeSea: a sea with the spare room of its lists.
func wholeSea(s api.Sea) api.Sea {
	s.Bed, s.Water, s.Tracer, s.Speed = whole(s.Bed), whole(s.Water), whole(s.Tracer), whole(s.Speed)
	return s
}

// P26.5: no call changes what it is handed in, refused or not, nor its spare room.
func TestWhatIsHandedInStays(t *testing.T) {
	pick := newPicker()
	var plans []api.Plan
	var seas []api.Sea
	for _, side := range []int{1, 2, 5, 32} {
		g := netOf(t, side)
		for _, s := range []api.Sea{pick.sea(g, wild), pick.sea(g, full), pick.lake(t, side, true)} {
			plans, seas = append(plans, planOf(side)), append(seas, s)
		}
	}
	for _, x := range append(planFaults(), seaFaults()...) {
		p, s := sound()
		x.make(&p, &s)
		plans, seas = append(plans, p), append(seas, s)
	}
	for k, p := range plans {
		p.Rains = roomy(append(p.Rains, api.Rain{Cell: 3, To: 5}))
		s := roomySea(seas[k])
		rains, before := slices.Clone(whole(p.Rains)), state.Copy(wholeSea(s))
		Report(p, s)
		Rest(p.Side, s)
		Kept(s, seas[0])
		Kept(seas[0], s)
		Kept(s, s)
		if !state.Same(wholeSea(s), before) || !slices.Equal(whole(p.Rains), rains) {
			t.Errorf("row %d has changed", k)
		}
	}
}

// P26.5: nothing is kept: what was handed in may be changed, and is asked anew.
func TestAskedAgain(t *testing.T) {
	pick := newPicker()
	for _, side := range []int{1, 2, 4} {
		g := netOf(t, side)
		s := pick.levelled(g)
		other := state.Copy(s)
		for k := range 60 {
			reported(t, k, side, s)
			rests(t, k, side, s)
			keeps(t, k, s, other)
			reported(t, k, side, s)
			rests(t, k, side, s)
			if k%3 == 2 {
				copy(s.Water, other.Water)
				copy(s.Bed, other.Bed)
				clear(s.Speed)
				continue
			}
			pick.disturb(s)
		}
	}
}

// Nothing is kept from call to call: what was refused ahead of it doesn't show.
func TestCallsStandAlone(t *testing.T) {
	s := newPicker().sea(netOf(t, 2), gentle)
	want := reported(t, "a sea", 2, s)
	for _, x := range append(planFaults(), seaFaults()...) {
		p, bad := sound()
		x.make(&p, &bad)
		Report(p, bad)
		Rest(p.Side, bad)
		Kept(bad, s)
		if r, errno := Report(planOf(2), s); errno != api.OK || !sameReports(r, want) || Rest(2, s) || !Kept(s, s) || !Rest(2, empty(2)) {
			t.Fatalf("behind %s: %+v, %d", x.what, r, errno)
		}
	}
}

// Calls at the same time answer what they answer alone.
func TestCallsAtTheSameTime(t *testing.T) {
	pick := newPicker()
	g := netOf(t, 4)
	s, lake := pick.sea(g, gentle), pick.lake(t, 4, true)
	want := reported(t, "a sea", 4, s)
	var all sync.WaitGroup
	faults := make([]string, 32)
	for k := range faults {
		all.Go(func() {
			r, errno := Report(planOf(4), s)
			still, moving := Rest(4, lake), Rest(4, s)
			alike, unlike := Kept(s, s), Kept(s, lake)
			if errno != api.OK || !sameReports(r, want) || !still || moving || !alike || unlike {
				faults[k] = fmt.Sprint(r, ", ", errno, ", ", still, ", ", moving, ", ", alike, ", ", unlike)
			}
		})
	}
	all.Wait()
	for k, fault := range faults {
		if fault != "" {
			t.Errorf("call %d: %s", k, fault)
		}
	}
}
