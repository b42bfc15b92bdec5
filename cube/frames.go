package cube

import "tarn/api"

const (
	sides = 4         // of a cell
	spins = 4         // turns that take +x to one face
	turns = 6 * spins // of the cube
)

// point: a place, or a way between two places, by its axes. A cell is 2 wide, so that the middles of cells and of their sides are whole.
type point [3]int

func (p point) plus(q point) point {
	return point{p[0] + q[0], p[1] + q[1], p[2] + q[2]}
}

func (p point) times(k int) point {
	return point{k * p[0], k * p[1], k * p[2]}
}

// along: how far p goes in a way of length 1.
func (p point) along(way point) int {
	return p[0]*way[0] + p[1]*way[1] + p[2]*way[2]
}

func (p point) cross(q point) point {
	return point{p[1]*q[2] - p[2]*q[1], p[2]*q[0] - p[0]*q[2], p[0]*q[1] - p[1]*q[0]}
}

// frame of a face: where its middle is seen from the cube's, and the ways in which i and j rise.
type frame struct {
	middle, right, up point
}

var frames = [6]frame{
	{point{1, 0, 0}, point{0, 1, 0}, point{0, 0, 1}},
	{point{0, 1, 0}, point{-1, 0, 0}, point{0, 0, 1}},
	{point{-1, 0, 0}, point{0, -1, 0}, point{0, 0, 1}},
	{point{0, -1, 0}, point{1, 0, 0}, point{0, 0, 1}},
	{point{0, 0, 1}, point{0, 1, 0}, point{-1, 0, 0}},
	{point{0, 0, -1}, point{0, 1, 0}, point{1, 0, 0}},
}

// way out of a cell of a face over one of its sides.
func way(face, over int) point {
	f := frames[face]
	switch over {
	case api.East:
		return f.right
	case api.North:
		return f.up
	case api.West:
		return f.right.times(-1)
	}
	return f.up.times(-1)
}

// sideOf: over which of its sides that way goes out of a cell of a face.
func sideOf(face int, out point) int {
	return least(sides, func(over int) bool { return way(face, over) == out })
}

// middle of a cell.
func middle(side, face, i, j int) point {
	f := frames[face]
	across := f.right.times(2*i + 1 - side).plus(f.up.times(2*j + 1 - side))
	return f.middle.times(side).plus(across)
}

// under: the face, i and j of the cell whose middle is there. Only one face is as far out as that, since a middle lies on no edge.
func under(side int, at point) (int, int, int) {
	face := least(len(frames), func(face int) bool { return at.along(frames[face].middle) == side })
	f := frames[face]
	return face, (at.along(f.right) + side - 1) / 2, (at.along(f.up) + side - 1) / 2
}

// rotation: where +x, +y and +z go.
type rotation [3]point

func rotationOf(turn int) rotation {
	x := frames[turn/spins].middle
	var across []point
	for _, f := range frames {
		if f.middle.along(x) == 0 {
			across = append(across, f.middle)
		}
	}
	y := across[turn%spins]
	return rotation{x, y, x.cross(y)}
}

func (r rotation) of(p point) point {
	return r[0].times(p[0]).plus(r[1].times(p[1])).plus(r[2].times(p[2]))
}

// then: r, and behind it the other.
func (r rotation) then(other rotation) rotation {
	return rotation{other.of(r[0]), other.of(r[1]), other.of(r[2])}
}
