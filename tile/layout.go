package tile

import (
	"math"
	"slices"

	"tarn/api"
)

const faces = 6

// Where the parts of a tile's bytes begin.
const (
	mark    = "TILE"
	faceAt  = 4
	sideAt  = 5
	leastAt = 6
	mostAt  = 10
	head    = 14
	word    = 4
)

// infinity: below its bits are those of every finite float from +0 on; those of a float with a sign lie above.
const infinity = 0x7f800000

func canBe(t api.Tile) bool {
	if !isFace(t.Face) || sideOf(len(t.Cells)) == 0 || slices.ContainsFunc(t.Cells, noDepth) {
		return false
	}
	least, most := ends(t.Cells)
	return t.Least == least && t.Most == most
}

func isFace(face int) bool { return face >= 0 && face < faces }

// sideOf a face with so many cells; 0: none.
func sideOf(cells int) int {
	for n := range api.MaxSide + 1 {
		if n*n == cells {
			return n
		}
	}
	return 0
}

func noDepth(bits uint32) bool { return bits >= infinity }

// ends: the bits of the least and of the greatest of these depths.
func ends(cells []uint32) (uint32, uint32) {
	least := math.Float32frombits(cells[0])
	most := least
	for _, bits := range cells[1:] {
		depth := math.Float32frombits(bits)
		least, most = min(least, depth), max(most, depth)
	}
	return math.Float32bits(least), math.Float32bits(most)
}

// size in bytes of a tile of so many cells.
func size(cells int) int { return head + word*cells }

// putCells: each as what differs from the one ahead of it.
func putCells(b []byte, cells []uint32) {
	ahead := uint32(0)
	for k, bits := range cells {
		put(b[word*k:], bits^ahead)
		ahead = bits
	}
}

func getCells(b []byte) []uint32 {
	cells := make([]uint32, len(b)/word)
	ahead := uint32(0)
	for k := range cells {
		ahead ^= get(b[word*k:])
		cells[k] = ahead
	}
	return cells
}

func put(b []byte, w uint32) {
	for k := range word {
		b[k] = byte(w >> (8 * k))
	}
}

func get(b []byte) uint32 {
	w := uint32(0)
	for k := range word {
		w |= uint32(b[k]) << (8 * k)
	}
	return w
}
