package state

import (
	"slices"
	"testing"

	"tarn/api"
	"tarn/cube"
)

func turned(t *testing.T, side int, s api.Sea, turn int) api.Sea {
	t.Helper()
	x, e := Turned(side, s, turn)
	if e != api.OK {
		t.Fatalf("side %d, turn %d: error %d", side, turn, e)
	}
	return x
}

// P20.1: turns by hand over the net of side 1, whose edges are, from 0 on, those between 0 and 1, 0 4, 0 3, 0 5, 1 2, 1 4,
// 1 5, 2 3, 2 4, 2 5, 3 4, 3 5.
func TestTurnedByHand(t *testing.T) {
	s := zero(1)
	for cell := range 6 {
		s.Bed[cell], s.Water[cell], s.Tracer[cell] = float64(cell)-2.5, int64(10+cell), int64(20+cell)
	}
	for e := range 12 {
		s.Speed[e] = float64(100 + e)
	}
	s.Sky, s.Step = 7, 8
	for _, r := range []struct {
		turn  int
		cells [6]int // which one came there
		speed [12]float64
	}{
		{0, [6]int{0, 1, 2, 3, 4, 5}, [12]float64{100, 101, 102, 103, 104, 105, 106, 107, 108, 109, 110, 111}},
		{1, [6]int{0, 3, 2, 1, 5, 4}, [12]float64{102, 103, 100, 101, -107, 111, 110, -104, 109, 108, 106, 105}},
		{4, [6]int{1, 0, 3, 2, 5, 4}, [12]float64{-100, 106, 104, 105, 102, 103, 101, -107, 111, 110, 109, 108}},
		{16, [6]int{1, 4, 3, 5, 0, 2}, [12]float64{105, -100, 106, 104, -110, -101, -108, 111, -102, -107, -103, -109}},
	} {
		x := turned(t, 1, s, r.turn)
		for cell, from := range r.cells {
			if x.Bed[cell] != s.Bed[from] || x.Water[cell] != s.Water[from] || x.Tracer[cell] != s.Tracer[from] {
				t.Errorf("turn %d: cell %d has %v, %d, %d", r.turn, cell, x.Bed[cell], x.Water[cell], x.Tracer[cell])
			}
		}
		if !slices.Equal(x.Speed, r.speed[:]) {
			t.Errorf("turn %d: speeds %v, want %v", r.turn, x.Speed, r.speed)
		}
		if x.Sky != 7 || x.Step != 8 {
			t.Errorf("turn %d: sky %d, step %d", r.turn, x.Sky, x.Step)
		}
	}
}

// P20.1: the opposite of +0 is +0; speeds below 0, the least and the greatest ones, turn their signs alone.
func TestSpeedsTurnedRound(t *testing.T) {
	for _, u := range []float64{0, least, -least, 1024, -1024, 0x1p-1022, -0x1.8p-1022, 0.1, -0.1} {
		s := zero(1)
		spoil(s.Speed, u)
		for turn, signs := range map[int][12]float64{
			0:  {1, 1, 1, 1, 1, 1, 1, 1, 1, 1, 1, 1},
			1:  {1, 1, 1, 1, -1, 1, 1, -1, 1, 1, 1, 1},
			16: {1, -1, 1, 1, -1, -1, -1, 1, -1, -1, -1, -1},
		} {
			for e, got := range turned(t, 1, s, turn).Speed {
				want := u * signs[e]
				if u == 0 {
					want = 0
				}
				if !sameBits(got, want) {
					t.Errorf("turn %d, speed %x: over edge %d it is %x, want %x", turn, u, e, got, want)
				}
			}
		}
	}
}

// P20.1, P20.3: against the model, all turns; what is answered can be.
func TestTurnedAgainstTheModel(t *testing.T) {
	p := newPicker()
	for _, side := range []int{1, 2, 3, 4, 5, 8} {
		net := newModelNet(side)
		for range 4 {
			s := p.sea(side)
			for turn := range 24 {
				x := turned(t, side, s, turn)
				if !modelSame(x, modelTurned(net, s, turn)) {
					t.Fatalf("side %d, turn %d", side, turn)
				}
				if at, e := Check(side, x); at != 0 || e != api.OK {
					t.Fatalf("side %d, turn %d: what it gives can't be: %d, %d", side, turn, at, e)
				}
			}
		}
	}
	net, s := newModelNet(32), p.sea(32)
	for _, turn := range []int{0, 7, 18, 23} {
		if x := turned(t, 32, s, turn); !modelSame(x, modelTurned(net, s, turn)) {
			t.Errorf("side 32, turn %d", turn)
		}
	}
}

// P20.3: turn 0 leaves the sea as it is.
func TestTurnNothing(t *testing.T) {
	p := newPicker()
	for _, side := range []int{1, 2, 3, 7, 32} {
		if s := p.sea(side); !Same(s, turned(t, side, s, 0)) {
			t.Errorf("side %d: another sea", side)
		}
	}
}

// P20.3: one turn and then another, all of them.
func TestTwoTurns(t *testing.T) {
	p := newPicker()
	for _, side := range []int{1, 2, 3} {
		s := p.sea(side)
		for one := range 24 {
			once := turned(t, side, s, one)
			for two := range 24 {
				if !Same(turned(t, side, once, two), turned(t, side, s, cube.After(two, one))) {
					t.Fatalf("side %d: turn %d and then turn %d", side, one, two)
				}
			}
		}
	}
}

// P20.3: seas just at their limits, which the order of cells doesn't push beyond them.
func TestTurnFullSeas(t *testing.T) {
	s := zero(2)
	s.Sky, s.Step = most-24*7, api.MaxStep
	spoil(s.Water, 7)
	spoil(s.Tracer, most/24)
	s.Tracer[13] += most % 24
	spoil(s.Bed, -1048576)
	spoil(s.Speed, -1024)
	for turn := range 24 {
		if at, e := Check(2, turned(t, 2, s, turn)); at != 0 || e != api.OK {
			t.Errorf("turn %d: %d, %d", turn, at, e)
		}
	}
}

// P20.1: Check's errors come first, then the turn's.
func TestTurnedErrors(t *testing.T) {
	refused := func(what string, side int, s api.Sea, turn int, want api.Errno) {
		t.Helper()
		if x, e := Turned(side, s, turn); e != want || !empty(x) {
			t.Errorf("%s, turn %d: %v, %d, want %d", what, turn, x, e, want)
		}
	}
	seasWithFaults(func(what string, s api.Sea, at int, e api.Errno) {
		for _, turn := range []int{-1, 0, 23, 24} {
			refused(what, 1, s, turn, e)
			refused(what+", no side", 0, s, turn, api.ErrSide)
		}
	})
	s := newPicker().sea(2)
	for _, turn := range ints() {
		if turn >= 0 && turn <= 23 {
			turned(t, 2, s, turn)
			continue
		}
		refused("a turn that there isn't", 2, s, turn, api.ErrArg)
		refused("of another side", 1, s, turn, api.ErrSize)
		refused("no side", 33, s, turn, api.ErrSide)
	}
	for _, side := range ints() {
		if _, e := Turned(side, s, 5); (e == api.OK) != (side == 2) {
			t.Errorf("side %d: %d", side, e)
		}
	}
}
