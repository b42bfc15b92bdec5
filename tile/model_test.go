package tile

import (
	"bytes"
	"encoding/binary"
	"math"
	"math/big"
	"slices"
	"testing"

	"tarn/api"
	"tarn/cube"
	"tarn/geom"
)

// The model: tiles by cells' places and numbers of any precision, bytes by the library's reader and writer of numbers.

// tileOf these cells, which can be.
func tileOf(face int, cells ...uint32) api.Tile {
	return api.Tile{Face: face, Least: slices.Min(cells), Most: slices.Max(cells), Cells: cells}
}

func same(a, b api.Tile) bool {
	return a.Face == b.Face && a.Least == b.Least && a.Most == b.Most && slices.Equal(a.Cells, b.Cells)
}

func copied(t api.Tile) api.Tile {
	t.Cells = slices.Clone(t.Cells)
	return t
}

// rounded to so many digits, of two equally near the even one; none of what is asked is subnormal.
func rounded(x *big.Float, digits uint) *big.Float {
	return new(big.Float).SetPrec(digits).SetMode(big.ToNearestEven).Set(x)
}

// depthBits: the quotient of two whole numbers (each a float of 64 bits, rounded), rounded to 64 bits and then to 32.
func depthBits(water, area int64) uint32 {
	x, _ := new(big.Rat).SetFrac64(water, area).Float64()
	y, _ := rounded(big.NewFloat(x), 24).Float32()
	return math.Float32bits(y)
}

// tilesOf a sea that can be.
func tilesOf(t *testing.T, side int, s api.Sea) []api.Tile {
	t.Helper()
	var out []api.Tile
	for face := range 6 {
		var cells []uint32
		for j := range side {
			for i := range side {
				cell := cube.Cell(side, face, i, j)
				cells = append(cells, depthBits(s.Water[cell], geom.Area(side, cell)))
			}
		}
		out = append(out, tileOf(face, cells...))
	}
	return out
}

// header of a tile's bytes.
type header struct {
	Mark        [4]byte
	Face, Side  uint8
	Least, Most uint32
}

// bytesOf a tile with n * n cells, whether it can be or not, n and its face in a byte each.
func bytesOf(t api.Tile, n int) []byte {
	var out bytes.Buffer
	binary.Write(&out, binary.LittleEndian, header{[4]byte{'T', 'I', 'L', 'E'}, uint8(t.Face), uint8(n), t.Least, t.Most})
	rows := slices.Clone(t.Cells)
	for k := len(rows) - 1; k > 0; k-- {
		rows[k] ^= rows[k-1]
	}
	binary.Write(&out, binary.LittleEndian, rows)
	return out.Bytes()
}

// errnoOf bytes: what the chapter names first.
func errnoOf(b []byte) api.Errno {
	var h header
	r := bytes.NewReader(b)
	if binary.Read(r, binary.LittleEndian, &h) != nil {
		return api.ErrShort
	}
	if h.Mark != [4]byte{'T', 'I', 'L', 'E'} || h.Face > 5 || h.Side == 0 || h.Side > 32 {
		return api.ErrForm
	}
	cells := make([]uint32, int(h.Side)*int(h.Side))
	if binary.Read(r, binary.LittleEndian, cells) != nil {
		return api.ErrShort
	}
	if r.Len() > 0 {
		return api.ErrLong
	}
	low, high := inf, -inf
	for k := range cells {
		if k > 0 {
			cells[k] ^= cells[k-1]
		}
		x := float64(math.Float32frombits(cells[k]))
		if math.IsNaN(x) || math.IsInf(x, 0) || math.Signbit(x) {
			return api.ErrForm
		}
		low, high = math.Min(low, x), math.Max(high, x)
	}
	if float32bits(low) != h.Least || float32bits(high) != h.Most {
		return api.ErrForm
	}
	return api.OK
}

func float32bits(x float64) uint32 { return math.Float32bits(float32(x)) }

func sideFor(cells int) int { return int(math.Sqrt(float64(cells))) }

// taken: Encode makes these bytes of the tile, and Decode the tile of these bytes.
func taken(t *testing.T, what any, x api.Tile) {
	t.Helper()
	want := bytesOf(x, sideFor(len(x.Cells)))
	b, errno := Encode(x)
	if errno != api.OK || !bytes.Equal(b, want) {
		t.Fatalf("%v: Encode is %x, %d, want %x", what, b, errno, want)
	}
	back, errno := Decode(want)
	if errno != api.OK || !same(back, x) {
		t.Fatalf("%v: Decode is %v, %d, want %v", what, back, errno, x)
	}
}

// refused: Encode answers ErrArg, and nothing beside it.
func refused(t *testing.T, what any, x api.Tile) {
	t.Helper()
	if b, errno := Encode(x); errno != api.ErrArg || b != nil {
		t.Fatalf("%v: Encode is %x, %d, want an ErrArg", what, b, errno)
	}
}

// faulty: Decode answers this error, and nothing beside it.
func faulty(t *testing.T, what any, b []byte, want api.Errno) {
	t.Helper()
	if x, errno := Decode(b); errno != want || !same(x, api.Tile{}) {
		t.Fatalf("%v: Decode is %v, %d, want %d", what, x, errno, want)
	}
}

// asModel: Decode answers what the model does.
func asModel(t *testing.T, what any, b []byte) {
	t.Helper()
	want := errnoOf(b)
	if want != api.OK {
		faulty(t, what, b, want)
		return
	}
	x, errno := Decode(b)
	if errno != api.OK || !bytes.Equal(bytesOf(x, int(b[5])), b) {
		t.Fatalf("%v: Decode of %x is %v, %d", what, b, x, errno)
	}
}
