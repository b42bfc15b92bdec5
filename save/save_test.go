package save

import (
	"fmt"
	"math"
	"slices"
	"strings"
	"testing"

	"tarn/api"
	"tarn/state"
)

// byHand: a sea of side 1 in which no two parts have the same bytes.
func byHand() api.Sea {
	return api.Sea{
		Bed:    []float64{0, 1, -1, 1048576, -1048576, least},
		Water:  []int64{0, 1, 256, 0x010203, 0x0102030405, 0x04050607080900},
		Tracer: []int64{5, 0, 0xff, 0xff00, 0x1000, 0x08000000000000},
		Speed:  []float64{0.5, -0.5, 1024, -1024, 0, -least, 3, -3, 1.0 / 3, 0x1p-1022, 100, 0},
		Sky:    0x0908070605040b,
		Step:   0x0102030405060708,
	}
}

func bytesByHand() string {
	none := strings.Repeat("\x00", 6)
	return "TARN\x01" + "\x08\x07\x06\x05\x04\x03\x02\x01" + "\x0b\x04\x05\x06\x07\x08\x09\x00" +
		none + "\x00\x00" + none + "\xf0\x3f" + none + "\xf0\xbf" + none + "\x30\x41" + none + "\x30\xc1" + "\x01\x00" + none +
		none + "\x00\x00" + "\x01\x00" + none + "\x00\x01" + none + "\x03\x02\x01\x00\x00\x00\x00\x00" + "\x05\x04\x03\x02\x01\x00\x00\x00" + "\x00\x09\x08\x07\x06\x05\x04\x00" +
		"\x05\x00" + none + none + "\x00\x00" + "\xff\x00" + none + "\x00\xff" + none + "\x00\x10" + none + none + "\x08\x00" +
		none + "\xe0\x3f" + none + "\xe0\xbf" + none + "\x90\x40" + none + "\x90\xc0" + none + "\x00\x00" + "\x01" + none + "\x80" +
		none + "\x08\x40" + none + "\x08\xc0" + "\x55\x55\x55\x55\x55\x55\xd5\x3f" + none + "\x10\x00" + none + "\x59\x40" + none + "\x00\x00" +
		"\xcf\xb2\x7f\xb4\x90\x70\x34\x01"
}

// P25.1: each number's bytes, written out; there and back.
func TestByHand(t *testing.T) {
	want := bytesByHand()
	b, errno := Encode(1, byHand())
	if errno != api.OK || string(b) != want {
		t.Errorf("error %d,\n%x, want\n%x", errno, b, want)
	}
	side, s, errno := Decode([]byte(want))
	if errno != api.OK || side != 1 || !state.Same(s, byHand()) {
		t.Errorf("side %d, error %d, %v", side, errno, s)
	}
}

// P25.1, the chapter's first example.
func TestSizes(t *testing.T) {
	b := thereAndBack(t, "side 1", 1, empty(1))
	if len(b) != 269 || string(b[:5]) != "\x54\x41\x52\x4e\x01" || strings.Trim(string(b[5:261]), "\x00") != "" {
		t.Errorf("side 1: %d bytes, %x", len(b), b)
	}
	if b = thereAndBack(t, "side 32", 32, empty(32)); len(b) != 245789 || b[4] != 32 {
		t.Errorf("side 32: %d bytes, %x", len(b), b[:21])
	}
	if b = thereAndBack(t, "side 2", 2, empty(2)); len(b) != 989 || b[4] != 2 {
		t.Errorf("side 2: %d bytes, %x", len(b), b[:21])
	}
}

// P25.1, P25.2: seas of all sides.
func TestAllSides(t *testing.T) {
	pick := newPicker()
	for side := 1; side <= api.MaxSide; side++ {
		for k := range max(2, 400/(side*side)) {
			b := thereAndBack(t, fmt.Sprint("side ", side, ", sea ", k), side, pick.sea(side))
			if len(b) != modelSize(side) || int(b[4]) != side {
				t.Fatalf("side %d: %d bytes, the side's is %d", side, len(b), b[4])
			}
		}
	}
}

// P25.1, P25.2: each number at its ends and beside nought, in each place, alone in a sea of noughts.
func TestEnds(t *testing.T) {
	sea := func(what string, make func(s *api.Sea)) {
		t.Helper()
		for _, side := range []int{1, 2} {
			s := empty(side)
			make(&s)
			thereAndBack(t, what, side, s)
		}
	}
	for _, x := range []float64{0, least, -least, 1, -1, 0x1p-1022, math.Nextafter(1, 2), 1.0 / 3, 1024, -1024, math.Nextafter(1024, 0)} {
		for edge := range 12 {
			sea(fmt.Sprint("speed ", x), func(s *api.Sea) { s.Speed[edge] = x })
		}
		for cell := range 6 {
			for _, bed := range []float64{x, 1024 * x, -1024 * x} {
				if bed != 0 {
					sea(fmt.Sprint("bed ", bed), func(s *api.Sea) { s.Bed[cell] = bed })
				}
			}
		}
	}
	for _, n := range []int64{0, 1, 255, 256, 1 << 32, most - 1, most} {
		for cell := range 6 {
			sea(fmt.Sprint("water ", n), func(s *api.Sea) { s.Water[cell] = n })
			sea(fmt.Sprint("tracer ", n), func(s *api.Sea) { s.Tracer[cell] = n })
			sea(fmt.Sprint("water, sky and tracer ", n), func(s *api.Sea) { s.Water[cell], s.Sky, s.Tracer[5-cell] = n, most-n, n })
		}
		sea(fmt.Sprint("sky ", n), func(s *api.Sea) { s.Sky = n })
	}
	for _, n := range []int{0, 1, 255, 256, 1 << 32, 1<<62 - 1, 1 << 62} {
		sea(fmt.Sprint("Step ", n), func(s *api.Sea) { s.Step = n })
	}
}

// P25.1: two seas that differ at one place have bytes that differ there, and in the sum.
func TestPlaces(t *testing.T) {
	pick := newPicker()
	for _, side := range []int{1, 2, 3, 32} {
		n := 6 * side * side
		s := pick.sea(side)
		s.Sky, s.Water, s.Tracer = 0, make([]int64, n), make([]int64, n)
		b := encoded(t, side, side, s)
		cell, edge := pick.below(n), pick.below(2*n)
		for _, x := range []struct {
			at     int
			change func(s *api.Sea)
		}{
			{5, func(s *api.Sea) { s.Step ^= 1 }},
			{13, func(s *api.Sea) { s.Sky++ }},
			{21 + 8*cell, func(s *api.Sea) { s.Bed[cell] = 5.0 / 7 }},
			{21 + 8*n + 8*cell, func(s *api.Sea) { s.Water[cell]++ }},
			{21 + 16*n + 8*cell, func(s *api.Sea) { s.Tracer[cell]++ }},
			{21 + 24*n + 8*edge, func(s *api.Sea) { s.Speed[edge] = 7.0 / 9 }},
		} {
			other := state.Copy(s)
			x.change(&other)
			c := encoded(t, side, side, other)
			if !slices.Equal(b[:x.at], c[:x.at]) || slices.Equal(b[x.at:x.at+8], c[x.at:x.at+8]) || !slices.Equal(b[x.at+8:len(b)-8], c[x.at+8:len(b)-8]) || slices.Equal(b[len(b)-8:], c[len(b)-8:]) {
				t.Errorf("side %d, at %d: %x and %x", side, x.at, b[:min(len(b), 300)], c[:min(len(c), 300)])
			}
		}
	}
}

// fault of a sea of side 1.
type fault struct {
	what  string
	errno api.Errno
	make  func(s *api.Sea)
}

// sizeFaults: lists that don't fit, which no bytes can tell of.
func sizeFaults() []fault {
	var out []fault
	add := func(what string, make func(s *api.Sea)) { out = append(out, fault{what, api.ErrSize, make}) }
	add("no lists", func(s *api.Sea) { *s = api.Sea{Sky: s.Sky, Step: s.Step} })
	add("empty lists", func(s *api.Sea) {
		s.Bed, s.Water, s.Tracer, s.Speed = s.Bed[:0], s.Water[:0], s.Tracer[:0], s.Speed[:0]
	})
	add("no beds", func(s *api.Sea) { s.Bed = nil })
	add("a bed too many", func(s *api.Sea) { s.Bed = append(s.Bed, 0) })
	add("a bed for each edge", func(s *api.Sea) { s.Bed = make([]float64, 12) })
	add("no waters", func(s *api.Sea) { s.Water = nil })
	add("a water too few", func(s *api.Sea) { s.Water = s.Water[:5] })
	add("a water too many", func(s *api.Sea) { s.Water = append(s.Water, 0) })
	add("no tracers", func(s *api.Sea) { s.Tracer = []int64{} })
	add("a tracer too few", func(s *api.Sea) { s.Tracer = s.Tracer[1:] })
	add("no speeds", func(s *api.Sea) { s.Speed = nil })
	add("a speed too few", func(s *api.Sea) { s.Speed = s.Speed[:11] })
	add("a speed too many", func(s *api.Sea) { s.Speed = append(s.Speed, 0) })
	add("a speed for each cell", func(s *api.Sea) { s.Speed = s.Speed[:6] })
	add("as many in all", func(s *api.Sea) { s.Bed, s.Speed = make([]float64, 7), make([]float64, 11) })
	add("lists of side 2", func(s *api.Sea) { *s = empty(2) })
	return out
}

// numberFaults: in the order in which they are told; none of them changes a list's length.
func numberFaults() []fault {
	var out []fault
	add := func(what string, errno api.Errno, make func(s *api.Sea)) {
		out = append(out, fault{what, errno, make})
	}
	signalling := math.Float64frombits(0x7ff0000000000001)
	for k, x := range []float64{minusZero, math.Nextafter(0x1p20, inf), math.Nextafter(-0x1p20, -inf), inf, -inf, nan, signalling} {
		add(fmt.Sprint("bed ", x), api.ErrBed, func(s *api.Sea) { s.Bed[k%6] = x })
	}
	for _, n := range []int64{-1, first, most + 1, last} {
		add(fmt.Sprint("sky ", n), api.ErrSky, func(s *api.Sea) { s.Sky = n })
	}
	for k, n := range []int64{-1, first, most - 1, most, last} { // the sky has 2
		add(fmt.Sprint("water ", n), api.ErrWater, func(s *api.Sea) { s.Water[k] = n })
	}
	add("waters that wrap round", api.ErrWater, func(s *api.Sea) { copy(s.Water, []int64{last, last, 2}) })
	add("waters that are too much together", api.ErrWater, func(s *api.Sea) { s.Water[1], s.Water[4] = most/2, most/2-1 })
	for k, n := range []int64{-1, first, most + 1, last} {
		add(fmt.Sprint("tracer ", n), api.ErrTracer, func(s *api.Sea) { s.Tracer[k] = n })
	}
	add("tracers that are too much together", api.ErrTracer, func(s *api.Sea) { s.Tracer[0], s.Tracer[5] = most, 1 })
	for k, x := range []float64{minusZero, math.Nextafter(1024, inf), 1025, -1025, inf, -inf, nan, signalling} {
		add(fmt.Sprint("speed ", x), api.ErrSpeed, func(s *api.Sea) { s.Speed[11-k] = x })
	}
	for _, n := range []int{-1, first, 1<<62 + 1, last} {
		add(fmt.Sprint("Step ", n), api.ErrArg, func(s *api.Sea) { s.Step = n })
	}
	return out
}

// sound: a sea of side 1 that can be.
func sound() api.Sea {
	s := empty(1)
	s.Sky, s.Water[0], s.Tracer[5], s.Speed[3], s.Step = 2, 0, 0, 1, 9
	return s
}

func noBytes(t *testing.T, what any, side int, s api.Sea, want api.Errno) {
	t.Helper()
	if b, errno := Encode(side, s); errno != want || len(b) != 0 {
		t.Errorf("%v: %d bytes, %d, want %d", what, len(b), errno, want)
	}
}

// The chapter's fourth example.
func TestWrongSeas(t *testing.T) {
	s := empty(1)
	noBytes(t, "the side 0", 0, s, api.ErrSide)
	s.Speed = make([]float64, 13)
	noBytes(t, "another length", 1, s, api.ErrSize)
	s = empty(1)
	s.Bed[2] = minusZero
	noBytes(t, "a bed of -0", 1, s, api.ErrBed)
}

// Every fault of a sea, alone and with every later one beside it, and behind a side that can't be.
func TestSeasThatCantBe(t *testing.T) {
	thereAndBack(t, "no fault", 1, sound())
	faults := numberFaults()
	for k, x := range faults {
		s := sound()
		x.make(&s)
		noBytes(t, x.what, 1, s, x.errno)
		for _, side := range []int{first, -1, 0, 33, 256, 257, last} {
			noBytes(t, x.what+" with no side", side, s, api.ErrSide)
		}
		noBytes(t, x.what+" with another side", 2, s, api.ErrSize)
		for _, later := range faults[k+1:] {
			if later.errno == x.errno {
				continue // at one place, or told by the same number
			}
			s := sound()
			x.make(&s)
			later.make(&s)
			noBytes(t, x.what+" with "+later.what, 1, s, x.errno)
		}
		for _, ahead := range sizeFaults() {
			s := sound()
			x.make(&s)
			ahead.make(&s)
			noBytes(t, ahead.what+" with "+x.what, 1, s, api.ErrSize)
		}
	}
}

// Sides outside and at the ends, and where a byte would be a side that can be.
func TestSides(t *testing.T) {
	for _, side := range []int{first, first + 1, -255, -32, -1, 0, 33, 64, 255, 256, 257, 288, 1 << 32, 1<<32 + 1, last} {
		noBytes(t, side, side, empty(1), api.ErrSide)
		noBytes(t, side, side, api.Sea{}, api.ErrSide)
	}
	for _, x := range sizeFaults() {
		s := sound()
		x.make(&s)
		noBytes(t, x.what, 1, s, api.ErrSize)
		noBytes(t, x.what+", side 0", 0, s, api.ErrSide)
	}
	for side := 1; side <= api.MaxSide; side++ {
		noBytes(t, side, side, empty(side%32+1), api.ErrSize)
		noBytes(t, side, side, api.Sea{}, api.ErrSize)
	}
}
