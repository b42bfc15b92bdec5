package tile

import (
	"fmt"
	"math"
	"testing"

	"tarn/api"
	"tarn/geom"
)

// hasTiles: Tiles answers these.
func hasTiles(t *testing.T, what any, side int, s api.Sea, want []api.Tile) {
	t.Helper()
	got, errno := Tiles(side, s)
	if errno != api.OK || len(got) != len(want) {
		t.Fatalf("%v: %d tiles, error %d", what, len(got), errno)
	}
	for k := range want {
		if !same(got[k], want[k]) {
			t.Fatalf("%v: tile %d is %x, want %x", what, k, got[k], want[k])
		}
	}
}

// P24.1, the chapter's first example.
func TestNoWater(t *testing.T) {
	var want []api.Tile
	for face := range 6 {
		want = append(want, api.Tile{Face: face, Cells: []uint32{0}})
	}
	hasTiles(t, "no water", 1, dry(1), want)
	b, errno := Encode(want[2])
	if string(b) != "TILE\x02\x01\x00\x00\x00\x00\x00\x00\x00\x00\x00\x00\x00\x00" || errno != api.OK {
		t.Errorf("%x, %d", b, errno)
	}
}

// P24.1, by hand: side 1, whose cells have 1431655765 each.
func TestSideOne(t *testing.T) {
	s := dry(1)
	s.Water = []int64{1431655765, 0, 2 * 1431655765, 1, 1431655765 / 2, 1431655764}
	s.Bed[0], s.Tracer[0], s.Speed[0], s.Sky, s.Step = 7, 5, -3, 9, 11 // none of which a tile tells
	want := []api.Tile{}
	for face, bits := range []uint32{0x3f800000, 0, 0x40000000, 0x30400000, 0x3f000000, 0x3f800000} {
		want = append(want, api.Tile{Face: face, Least: bits, Most: bits, Cells: []uint32{bits}})
	}
	// 1 / 1431655765 is 3 / (2^32 - 1), next to 3 * 2^-32; half the water and a half less differs from 1/2 in the 31st digit
	hasTiles(t, "side 1", 1, s, want)
}

// P24.1: cells in their order, i rising first; the deepest and the shallowest of each face first, last and in the midst.
func TestOrderOfCells(t *testing.T) {
	s := dry(3)
	deep := func(cell int, depth int64) { s.Water[cell] = depth * geom.Area(3, cell) }
	var want []api.Tile
	for face := range 6 {
		cells := make([]uint32, 9)
		for k := range cells {
			depth := int64(10*face + k + 2)
			switch k {
			case []int{0, 8, 4, 1, 7, 3}[face]:
				depth = 100
			case []int{8, 0, 1, 2, 6, 5}[face]:
				depth = 1
			}
			deep(9*face+k, depth)
			cells[k] = math.Float32bits(float32(depth))
		}
		want = append(want, api.Tile{Face: face, Least: one, Most: 0x42c80000, Cells: cells})
	}
	hasTiles(t, "side 3", 3, s, want)
}

// P24.1: one quantum, and MaxWater, in each single cell of some sides.
func TestOneCell(t *testing.T) {
	for _, side := range []int{1, 2, 3, 5} {
		for cell := range 6 * side * side {
			for _, water := range []int64{1, 1000, full} {
				s := dry(side)
				s.Water[cell] = water
				hasTiles(t, fmt.Sprint("side ", side, ", water ", water, " in cell ", cell), side, s, tilesOf(t, side, s))
			}
		}
	}
}

// P24.1: of a depth in the middle of two floats of 32 bits the even one; a quantum more or less lies beside the middle.
func TestMiddles(t *testing.T) {
	for _, x := range []struct {
		side, cell int
		shift      uint
	}{{2, 0, 1}, {2, 23, 1}, {3, 4, 2}, {3, 49, 2}, {4, 1, 3}, {4, 94, 0}} {
		part := geom.Area(x.side, x.cell) >> x.shift
		if part<<x.shift != geom.Area(x.side, x.cell) {
			t.Fatalf("the area of cell %d isn't even enough", x.cell)
		}
		for m := int64(1<<24 + 1); m < 1<<25 && m*part < full; m += 99998 { // a float of 25 digits
			even := (m-1)/2&1 == 0
			for _, more := range []int64{-1, 0, 1} {
				near := m + 1
				if more < 0 || more == 0 && even {
					near = m - 1
				}
				s := dry(x.side)
				s.Water[x.cell] = m*part + more
				bits := math.Float32bits(float32(near) / float32(int64(1)<<x.shift))
				each := x.side * x.side
				list, errno := Tiles(x.side, s)
				if errno != api.OK || list[x.cell/each].Cells[x.cell%each] != bits || list[x.cell/each].Most != bits {
					t.Errorf("side %d, cell %d, %d quanta: %x, %d, want %x", x.side, x.cell, s.Water[x.cell], list, errno, bits)
				}
			}
		}
	}
}

// P24.1 against the model: all sides.
func TestAllSides(t *testing.T) {
	pick := newPicker()
	for side := 1; side <= api.MaxSide; side++ {
		for range max(1, 40/(side*side)) {
			s := pick.sea(side)
			hasTiles(t, fmt.Sprint("side ", side), side, s, tilesOf(t, side, s))
		}
		for _, cell := range []int{0, 6*side*side - 1, pick.below(6 * side * side)} {
			s := dry(side)
			s.Water[cell] = full
			hasTiles(t, fmt.Sprint("side ", side, ", MaxWater"), side, s, tilesOf(t, side, s))
		}
	}
}

// What Tiles answers can be: it goes into bytes and back.
func TestTilesCanBe(t *testing.T) {
	pick := newPicker()
	for _, side := range []int{1, 2, 3, 17, 32} {
		list, _ := Tiles(side, pick.sea(side))
		for _, x := range list {
			taken(t, fmt.Sprint("side ", side), x)
		}
	}
}

// fault of a sea of side 1.
type fault struct {
	what  string
	errno api.Errno
	make  func(s *api.Sea)
}

// seaFaults: in the order in which they are told.
func seaFaults() []fault {
	var out []fault
	add := func(what string, errno api.Errno, make func(s *api.Sea)) {
		out = append(out, fault{what, errno, make})
	}
	add("no lists", api.ErrSize, func(s *api.Sea) { *s = api.Sea{} })
	add("no beds", api.ErrSize, func(s *api.Sea) { s.Bed = nil })
	add("a bed too many", api.ErrSize, func(s *api.Sea) { s.Bed = append(s.Bed, 0) })
	add("a water too few", api.ErrSize, func(s *api.Sea) { s.Water = s.Water[:5] })
	add("a water too many", api.ErrSize, func(s *api.Sea) { s.Water = append(s.Water, 0) })
	add("no tracers", api.ErrSize, func(s *api.Sea) { s.Tracer = nil })
	add("a speed too few", api.ErrSize, func(s *api.Sea) { s.Speed = s.Speed[:11] })
	for _, x := range []float64{minusZero, math.Nextafter(0x1p20, inf), -inf, nan} {
		add(fmt.Sprint("bed ", x), api.ErrBed, func(s *api.Sea) { s.Bed[5] = x })
	}
	for _, n := range []int64{-1, first, full + 1, last} {
		add(fmt.Sprint("sky ", n), api.ErrSky, func(s *api.Sea) { s.Sky = n })
	}
	for _, n := range []int64{-1, first, full - 1, last} { // the sky has 2
		add(fmt.Sprint("water ", n), api.ErrWater, func(s *api.Sea) { s.Water[5] = n })
	}
	for _, n := range []int64{-1, first, full + 1, last} {
		add(fmt.Sprint("tracer ", n), api.ErrTracer, func(s *api.Sea) { s.Tracer[5] = n })
	}
	for _, x := range []float64{minusZero, math.Nextafter(1024, inf), -1025, inf, nan} {
		add(fmt.Sprint("speed ", x), api.ErrSpeed, func(s *api.Sea) { s.Speed[11] = x })
	}
	for _, n := range []int{-1, first, 1<<62 + 1, last} {
		add(fmt.Sprint("Step ", n), api.ErrArg, func(s *api.Sea) { s.Step = n })
	}
	return out
}

// sound: a sea of side 1 that can be.
func sound() api.Sea {
	s := dry(1)
	s.Sky = 2
	return s
}

func noTiles(t *testing.T, what any, side int, s api.Sea, want api.Errno) {
	t.Helper()
	if list, errno := Tiles(side, s); errno != want || len(list) != 0 {
		t.Errorf("%v: %v, %d, want %d", what, list, errno, want)
	}
}

// Every fault of a sea, alone and with every later one beside it, and behind a side that can't be.
func TestSeasThatCantBe(t *testing.T) {
	faults := seaFaults()
	for k, x := range faults {
		s := sound()
		x.make(&s)
		noTiles(t, x.what, 1, s, x.errno)
		for _, side := range []int{first, -1, 0, 33, last} {
			noTiles(t, fmt.Sprint(x.what, ", side ", side), side, s, api.ErrSide)
		}
		for _, later := range faults[k+1:] {
			s := sound()
			x.make(&s)
			if len(s.Water)+len(s.Tracer)+len(s.Bed)+len(s.Speed) < 30 {
				continue // there is no place left for the later one
			}
			later.make(&s)
			x.make(&s)
			noTiles(t, x.what+" with "+later.what, 1, s, x.errno)
		}
	}
}

func TestSides(t *testing.T) {
	for _, side := range []int{first, first + 1, -32, -1, 0, 33, 64, 1 << 32, 1<<32 + 1, last} {
		noTiles(t, side, side, dry(1), api.ErrSide)
		noTiles(t, side, side, api.Sea{}, api.ErrSide)
	}
	for _, side := range []int{1, 2, 31, 32} {
		if list, errno := Tiles(side, dry(side)); len(list) != 6 || errno != api.OK {
			t.Errorf("side %d: %d tiles, error %d", side, len(list), errno)
		}
		noTiles(t, side, side, dry(side%32+1), api.ErrSize)
	}
}
