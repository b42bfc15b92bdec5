package split

import (
	"slices"
	"sync"
	"testing"

	"tarn/api"
	"tarn/grid"
)

// roomy: the list with spare room behind it that isn't empty.
func roomy[T any](list []T) []T { return append(slices.Clone(list), list...)[:len(list)] }

func whole[T any](list []T) []T { return list[:cap(list)] }

// spoil the list and its spare room.
func spoil[T any](list []T, by T) {
	room := whole(list)
	for k := range room {
		room[k] = by
	}
}

func spoiled[T comparable](list []T, by T) bool {
	return !slices.ContainsFunc(whole(list), func(x T) bool { return x != by })
}

func roomySea(s api.Sea) api.Sea {
	s.Bed, s.Water, s.Tracer, s.Speed = roomy(s.Bed), roomy(s.Water), roomy(s.Tracer), roomy(s.Speed)
	return s
}

func wholeSea(s api.Sea) api.Sea {
	s.Bed, s.Water, s.Tracer, s.Speed = whole(s.Bed), whole(s.Water), whole(s.Tracer), whole(s.Speed)
	return s
}

func roomyPart(p Part) Part { return Part{roomy(p.Cells), roomy(p.Edges), roomy(p.Halo)} }

func wholePart(p Part) Part { return Part{whole(p.Cells), whole(p.Edges), whole(p.Halo)} }

func copyPart(p Part) Part {
	return Part{slices.Clone(p.Cells), slices.Clone(p.Edges), slices.Clone(p.Halo)}
}

func copyParts(list []Part) []Part {
	var out []Part
	for _, part := range list {
		out = append(out, copyPart(part))
	}
	return out
}

func copySea(s api.Sea) api.Sea {
	s.Bed, s.Water, s.Tracer, s.Speed = slices.Clone(s.Bed), slices.Clone(s.Water), slices.Clone(s.Tracer), slices.Clone(s.Speed)
	return s
}

// spoilSea: each list by another number.
func spoilSea(s api.Sea) {
	spoil(s.Bed, -5)
	spoil(s.Water, -6)
	spoil(s.Tracer, -7)
	spoil(s.Speed, -8)
}

func spoilPart(p Part, by int) {
	spoil(p.Cells, by)
	spoil(p.Edges, by-1)
	spoil(p.Halo, by-2)
}

func spoiledPart(p Part, by int) bool {
	return spoiled(p.Cells, by) && spoiled(p.Edges, by-1) && spoiled(p.Halo, by-2)
}

// P22.4: no two lists of one answer of Split share memory, spare room too, and none with another answer, nor with the net.
func TestPartsLieApart(t *testing.T) {
	for _, side := range []int{1, 2, 5} {
		g := made(t, side)
		for parts := 1; parts <= 64; parts++ {
			other := parted(t, g, parts)
			kept := copyParts(other)
			list := parted(t, g, parts)
			for k, part := range list {
				spoilPart(part, -10*k-10)
			}
			for k, part := range list {
				if !spoiledPart(part, -10*k-10) {
					t.Fatalf("side %d: part %d of %d shares memory with another", side, k, parts)
				}
			}
			spoil(list, Part{})
			if !slices.EqualFunc(other, kept, samePart) {
				t.Fatalf("side %d in %d parts: two answers share memory", side, parts)
			}
			parted(t, g, parts) // the net is what it was
		}
	}
}

// P22.4: what is put behind the end of a list goes into no other one.
func TestPartsMayGrow(t *testing.T) {
	g := made(t, 3)
	for _, parts := range []int{1, 2, 7, 54, 64} {
		list := parted(t, g, parts)
		kept := copyParts(list)
		for k := range list {
			_ = append(list[k].Cells, -1, -2, -3)
			_ = append(list[k].Edges, -4, -5, -6)
			_ = append(list[k].Halo, -7, -8, -9)
		}
		if !slices.EqualFunc(list, kept, samePart) {
			t.Errorf("in %d parts: a list has grown into another one", parts)
		}
	}
}

// P22.4: Local changes nothing that it is given, spare room too; changing that later changes no answer, changing an answer
// changes neither that nor another answer, and no two lists of one answer share memory.
func TestLocalStaysApart(t *testing.T) {
	p := newPicker()
	g := made(t, 2)
	everything := []Part{{}, {Cells: upTo(24), Edges: upTo(48)}, {Cells: upTo(24), Edges: upTo(48), Halo: upTo(24)}}
	for _, part := range append(everything, parted(t, g, 5)...) {
		s, given := roomySea(p.sea(g)), roomyPart(part)
		before, partBefore := copySea(wholeSea(s)), copyPart(wholePart(given))
		seen := seenBy(t, "memory", g, given, s)
		kept := copySea(seen)
		again := seenBy(t, "again", g, given, s)
		spoilSea(again)
		if !spoiled(again.Bed, -5) || !spoiled(again.Water, -6) || !spoiled(again.Tracer, -7) || !spoiled(again.Speed, -8) {
			t.Fatal("two lists of an answer share memory")
		}
		if !same(wholeSea(s), before) || !samePart(wholePart(given), partBefore) {
			t.Fatal("what was handed in has changed")
		}
		spoilSea(s)
		spoilPart(given, -20)
		if !same(seen, kept) {
			t.Fatal("an answer hangs on what was handed in, or on another answer")
		}
	}
}

// P22.4: the lists handed in may be one and the same; those answered are apart all the same.
func TestOneListForMany(t *testing.T) {
	g := made(t, 1)
	quanta, floats, numbers := []int64{1, 2, 3, 4, 5, 6}, []float64{1, 2, 3, 4, 5, 6, 7, 8, 9, 10, 11, 12}, []int{4, 1}
	s := api.Sea{Bed: floats[:6], Water: quanta, Tracer: quanta, Speed: floats}
	seen := seenBy(t, "one list", g, Part{numbers, numbers, numbers}, s)
	spoilSea(seen)
	if !spoiled(seen.Bed, -5) || !spoiled(seen.Water, -6) || !spoiled(seen.Tracer, -7) || !spoiled(seen.Speed, -8) {
		t.Error("two lists of an answer share memory")
	}
	if !slices.Equal(quanta, []int64{1, 2, 3, 4, 5, 6}) || floats[4] != 5 || !slices.Equal(numbers, []int{4, 1}) {
		t.Error("what was handed in has changed")
	}
}

// P22.4: what is refused isn't changed.
func TestWhatIsRefusedStays(t *testing.T) {
	g := made(t, 1)
	s, part := roomySea(newPicker().sea(g)), roomyPart(Part{[]int{0, 6}, []int{0, 12}, []int{1, -1}})
	before, partBefore := copySea(wholeSea(s)), copyPart(wholePart(part))
	for _, net := range []*grid.Grid{nil, g} {
		if _, errno := Local(net, part, s); errno == api.OK {
			t.Error("it was taken")
		}
		short := s
		short.Speed = s.Speed[:11]
		if _, errno := Local(net, Part{Cells: part.Cells[:1]}, short); errno == api.OK {
			t.Error("it was taken")
		}
	}
	if !same(wholeSea(s), before) || !samePart(wholePart(part), partBefore) {
		t.Error("what was refused has changed")
	}
}

// Calls at the same time, over the same net and sea, answer the same.
func TestCallsAtTheSameTime(t *testing.T) {
	g := made(t, 4)
	s := newPicker().sea(g)
	want := parted(t, g, 6)
	seas := make([]api.Sea, 6)
	lists := make([][]Part, 6)
	var calls sync.WaitGroup
	for k := range seas {
		calls.Go(func() {
			lists[k], _ = Split(g, 6)
			seas[k], _ = Local(g, lists[k][k], s)
		})
	}
	calls.Wait()
	for k := range seas {
		if !slices.EqualFunc(lists[k], want, samePart) || !same(seas[k], modelLocal(want[k], s)) {
			t.Errorf("call %d answered otherwise", k)
		}
	}
}
