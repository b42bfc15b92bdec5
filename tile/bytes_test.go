package tile

import (
	"bytes"
	"fmt"
	"math"
	"slices"
	"testing"

	"tarn/api"
)

// four: the chapter's second example.
func four() api.Tile { return tileOf(5, one, 0x40000000, 0, one) }

const bytesOfFour = "TILE\x05\x02\x00\x00\x00\x00\x00\x00\x00\x40\x00\x00\x80\x3f\x00\x00\x80\x7f\x00\x00\x00\x40\x00\x00\x80\x3f"

// P24.2: the chapter's second example, and another by hand whose bytes are all unlike.
func TestBytesByHand(t *testing.T) {
	for _, x := range []struct {
		tile  api.Tile
		bytes string
	}{
		{four(), bytesOfFour},
		{tileOf(3, 0x01020304), "TILE\x03\x01\x04\x03\x02\x01\x04\x03\x02\x01\x04\x03\x02\x01"},
		{tileOf(0, 0x11223344, 0x11223345, 0x10223345, 0x7f7fffff), "TILE\x00\x02\x45\x33\x22\x10\xff\xff\x7f\x7f\x44\x33\x22\x11\x01\x00\x00\x00\x00\x00\x00\x01\xba\xcc\x5d\x6f"},
	} {
		if b, errno := Encode(x.tile); string(b) != x.bytes || errno != api.OK {
			t.Errorf("%x: %x, %d", x.tile, b, errno)
		}
		if back, errno := Decode([]byte(x.bytes)); !same(back, x.tile) || errno != api.OK {
			t.Errorf("%x: %x, %d", x.bytes, back, errno)
		}
	}
}

// P24.2: there and back, all sizes and faces.
func TestThereAndBack(t *testing.T) {
	pick := newPicker()
	for n := 1; n <= api.MaxSide; n++ {
		for range max(3, 300/(n*n)) {
			x := pick.tile(n)
			taken(t, fmt.Sprint("side ", n), x)
			b, _ := Encode(x)
			if len(b) != 14+4*n*n {
				t.Fatalf("side %d: %d bytes", n, len(b))
			}
			back, errno := Decode(b)
			again, other := Encode(back)
			if errno != api.OK || other != api.OK || !same(back, x) || !bytes.Equal(again, b) {
				t.Fatalf("side %d: %v, %d, %x, %d", n, back, errno, again, other)
			}
		}
	}
}

// P24.2: Face and the number of cells at the ends of what can be and beyond.
func TestFacesAndSizes(t *testing.T) {
	for _, face := range []int{first, -256, -251, -6, -1, 0, 1, 2, 3, 4, 5, 6, 7, 255, 256, 261, 1 << 32, last} {
		x := tileOf(face, one)
		if face >= 0 && face <= 5 {
			taken(t, face, x)
		} else {
			refused(t, fmt.Sprint("face ", face), x)
		}
	}
	for cells := range 1100 {
		x := api.Tile{Cells: make([]uint32, cells)}
		if n := sideFor(cells); n*n == cells && n >= 1 && n <= 32 {
			taken(t, cells, x)
		} else {
			refused(t, fmt.Sprint(cells, " cells"), x)
		}
	}
	refused(t, "no list of cells", api.Tile{})
	for _, cells := range []int{1156, 4096, 65536, 1 << 20, 1<<20 + 1} {
		refused(t, fmt.Sprint(cells, " cells"), api.Tile{Cells: make([]uint32, cells)})
	}
}

// wrong bits: of no finite float from +0 on.
func wrong() []uint32 {
	return []uint32{0x7f800000, 0x7f800001, 0x7fc00000, 0x7fffffff, 0x80000000, 0x80000001, 0xbf800000, 0xff7fffff, 0xff800000, 0xffc00001, 0xffffffff}
}

// with these bits in one cell, among others that can be.
func with(n, at int, bits, others uint32) []uint32 {
	cells := slices.Repeat([]uint32{others}, n*n)
	cells[at] = bits
	return cells
}

// P24.2: bits that can be, and such that can't, first, last and in the midst; whatever Least and Most say of them.
func TestBitsOfCells(t *testing.T) {
	for _, n := range []int{1, 2, 3, 32} {
		for _, at := range []int{0, n * n / 2, n*n - 1} {
			for _, others := range []uint32{0, 1, one, top} {
				for _, bits := range []uint32{0, 1, 0x007fffff, 0x00800000, one, top - 1, top} {
					taken(t, fmt.Sprintf("side %d: %x at %d", n, bits, at), tileOf(2, with(n, at, bits, others)...))
				}
				for _, bits := range wrong() {
					wrongCells(t, n, with(n, at, bits, others), bits)
				}
			}
		}
	}
}

// wrongCells: refused, with the ends by the bits, by the numbers, and the others' alone.
func wrongCells(t *testing.T, n int, cells []uint32, bits uint32) {
	t.Helper()
	var good []uint32
	for _, cell := range cells {
		if cell != bits {
			good = append(good, cell)
		}
	}
	ends := []api.Tile{tileOf(2, cells...), {Face: 2, Least: bits, Most: bits, Cells: cells}}
	if len(good) > 0 {
		ends = append(ends, tileOf(2, good...))
		ends = append(ends, api.Tile{Least: bits, Most: slices.Max(good)}, api.Tile{Least: slices.Min(good), Most: bits})
	}
	for _, x := range ends {
		x.Face, x.Cells = 2, cells
		refused(t, fmt.Sprintf("side %d with %x", n, bits), x)
		faulty(t, fmt.Sprintf("side %d with %x", n, bits), bytesOf(x, n), api.ErrForm)
	}
}

// P24.2: Least and Most are those of the cells and no others.
func TestEnds(t *testing.T) {
	for _, cells := range [][]uint32{{0}, {1}, {one}, {top}, {0, 0, 0, 0}, {1, 2, 3, 4}, {one, 0, top, one}, {5, 4, 3, 2, one, 4, 3, 2, 9}} {
		x := tileOf(1, cells...)
		n := sideFor(len(cells))
		taken(t, cells, x)
		for _, by := range []uint32{1, math.MaxUint32, 1 << 8, 1 << 16, 1 << 24, 1 << 31} {
			low, high, both := x, x, x
			low.Least += by
			high.Most += by
			both.Least, both.Most = x.Least+by, x.Most+by
			for _, y := range []api.Tile{low, high, both} {
				refused(t, y, y)
				faulty(t, y, bytesOf(y, n), api.ErrForm)
			}
		}
		if x.Least != x.Most {
			turned := x
			turned.Least, turned.Most = x.Most, x.Least
			refused(t, turned, turned)
			faulty(t, turned, bytesOf(turned, n), api.ErrForm)
		}
	}
}

// P24.2: bytes of every small length, of a tile, of zeros and of others; one fewer and one more than a tile's.
func TestLengths(t *testing.T) {
	long := []byte(bytesOfFour)
	for n := range 21 {
		for _, from := range [][]byte{long, make([]byte, 21), bytes.Repeat([]byte{0xff}, 21), []byte("TILE\x06\x01" + bytesOfFour), []byte("TILE\x00\x21" + bytesOfFour), []byte("tile\x00\x01" + bytesOfFour)} {
			asModel(t, fmt.Sprint(n, " bytes"), from[:n])
			if _, errno := Decode(from[:n]); n < 14 && errno != api.ErrShort {
				t.Errorf("%d bytes: %d", n, errno)
			}
		}
	}
	faulty(t, "no bytes", nil, api.ErrShort)
	faulty(t, "14 zeros", make([]byte, 14), api.ErrForm)
	pick := newPicker()
	for n := 1; n <= api.MaxSide; n++ {
		b := bytesOf(pick.tile(n), n)
		for cut := 1; cut < 6; cut++ {
			want := api.ErrShort
			faulty(t, fmt.Sprint("side ", n, " but ", cut), b[:len(b)-cut], want)
			faulty(t, fmt.Sprint("side ", n, " and ", cut), append(slices.Clone(b), make([]byte, cut)...), api.ErrLong)
		}
		faulty(t, fmt.Sprint("side ", n, " twice"), append(slices.Clone(b), b...), api.ErrLong)
	}
}

// The chapter's fourth example.
func TestLastByte(t *testing.T) {
	b := []byte("TILE\x02\x01\x00\x00\x00\x00\x00\x00\x00\x00\x00\x00\x00\x00")
	faulty(t, "without the last", b[:17], api.ErrShort)
	faulty(t, "with one more", append(slices.Clone(b), 0), api.ErrLong)
	faulty(t, "13 bytes", b[:13], api.ErrShort)
	for _, by := range []byte{0x80, 0x3f, 0x7f, 0xff, 1} {
		c := slices.Clone(b)
		c[17] = by
		faulty(t, by, c, api.ErrForm)
	}
}

// P24.2: each byte changed to each other value, as the model says; of the mark, Least and Most none other is taken.
func TestEachByteChanged(t *testing.T) {
	for _, x := range []api.Tile{tileOf(2, 0), four(), tileOf(0, one), tileOf(5, 9, 8, 7, 6, 5, 4, 3, 2, 1)} {
		n := sideFor(len(x.Cells))
		for at := range 14 + 4*n*n {
			for by := range 256 {
				b := bytesOf(x, n)
				if b[at] == byte(by) {
					continue
				}
				b[at] = byte(by)
				asModel(t, fmt.Sprintf("byte %d is %x", at, by), b)
				if y, errno := Decode(b); at < 4 && errno != api.ErrForm || at >= 6 && at < 14 && errno != api.ErrForm || at == 4 && (errno == api.OK) != (by < 6) || errno == api.OK && same(x, y) {
					t.Errorf("byte %d is %x: %v, %d", at, by, y, errno)
				}
			}
		}
	}
}

// P24.2: a byte for n that tells of another side, or of none.
func TestSideByte(t *testing.T) {
	for by := range 256 {
		for _, n := range []int{1, 5, 32} {
			b := bytesOf(tileOf(4, make([]uint32, n*n)...), n)
			b[5] = byte(by)
			switch {
			case by == 0 || by > 32:
				faulty(t, by, b, api.ErrForm)
			case by > n:
				faulty(t, by, b, api.ErrShort)
			case by < n:
				faulty(t, by, b, api.ErrLong)
			}
		}
	}
}

// Errors in their order: what is told first hides what comes behind it.
func TestFirstError(t *testing.T) {
	bad := bytesOf(tileOf(2, 0xffffffff), 1)
	for _, x := range []struct {
		b    []byte
		want api.Errno
	}{
		{append([]byte("tile"), bad[4:]...), api.ErrForm},
		{append([]byte("tile"), bad[4:13]...), api.ErrShort},
		{append([]byte("tile"), bad[4:15]...), api.ErrForm},
		{append([]byte("TILE\xff"), bad[5:15]...), api.ErrForm},
		{append([]byte("TILE\x00\xff"), bad[6:15]...), api.ErrForm},
		{bad[:17], api.ErrShort},
		{append(slices.Clone(bad), 0), api.ErrLong},
		{bad, api.ErrForm},
	} {
		faulty(t, fmt.Sprintf("%x", x.b), x.b, x.want)
	}
}

// P24.2: bytes that are each a cell's own, but by the xor come to what can't be; and such that can't be, but come to what can.
func TestXor(t *testing.T) {
	head := "TILE\x00\x02\x00\x00\x00\x00\x00\x00\x00\x40"
	two, other := "\x00\x00\x00\x40", "\x00\x00\x80\x3f"
	nought := "\x00\x00\x00\x00"
	for _, x := range []struct {
		rows string
		want api.Errno
	}{
		{two + two + nought + nought, api.OK},                              // 2, 0, 0, 0
		{two + other + nought + two, api.ErrForm},                          // 2, 7f800000
		{nought + two + two + two, api.OK},                                 // 0, 2, 0, 2
		{nought + two + other + other, api.ErrForm},                        // 0, 2, 7f800000, 2
		{two + nought + two + "\x00\x00\x00\x80", api.ErrForm},             // the last -0
		{two + two + "\x00\x00\x00\xc0" + "\x00\x00\x00\x80", api.ErrForm}, // 2, 0, c0000000, 2
		{two + "\x00\x00\x00\xc0" + two + two, api.ErrForm},                // 2, 80000000
		{nought + nought + nought + nought, api.ErrForm},                   // Most is another
		{two + nought + nought + nought, api.ErrForm},                      // Least is another
	} {
		b := []byte(head + x.rows)
		asModel(t, x.rows, b)
		if y, errno := Decode(b); errno != x.want {
			t.Errorf("%x: %v, %d, want %d", x.rows, y, errno, x.want)
		}
	}
	// the second row can't be a cell's bits, but comes to one
	b := []byte("TILE\x00\x02\x00\x00\x00\x00\x00\x00\x80\x3f" + "\xff\xff\x7f\x3f" + "\xff\xff\xff\x00" + other + "\x00\x00\x00\x00")
	asModel(t, "a row like no cell", b)
}

// Any bytes: Decode answers as the model does.
func TestAnyBytes(t *testing.T) {
	pick := newPicker()
	ok := 0
	for range 60000 {
		n := 1 + pick.below(4)
		b := bytesOf(pick.tile(n), n)
		for range pick.below(3) {
			b[pick.below(len(b))] = pickOf(pick, 0, 1, 0x7f, 0x80, 0xff, byte(pick.next()>>20))
		}
		switch pick.below(8) {
		case 0:
			b = b[:pick.below(len(b)+1)]
		case 1:
			b = append(b, make([]byte, pick.below(5))...)
		}
		asModel(t, "any bytes", b)
		if errnoOf(b) == api.OK {
			ok++
		}
	}
	if ok < 10000 {
		t.Errorf("only %d of them can be", ok)
	}
}
