package state

import (
	"math"
	"math/big"
	"slices"

	"tarn/api"
)

// The model: the chapter's words in another way. Floats are held against the limits by their bits, as whole numbers; sums
// are whole numbers of any size; all faults of a sea are gathered ahead of telling one. What a turn makes of a sea is
// found by the middles of cells and of their sides, as points on a cube: it leans on neither layer 6 nor layer 9.

const signBit = 1 << 63

// modelKept: the bits of floats from +0 on rise as the floats do, those of infinities and NaNs behind them.
func modelKept(x, most float64) bool {
	b := math.Float64bits(x)
	return b != signBit && b&^signBit <= math.Float64bits(most)
}

func modelPlan(p api.Plan) api.Errno {
	if p.Side < 1 || p.Side > 32 {
		return 10
	}
	top := math.Float64bits(1024)
	dt, gravity, drag := math.Float64bits(p.Dt), math.Float64bits(p.Gravity), math.Float64bits(p.Drag)
	if dt-1 >= top || gravity > top || drag > top || !slices.Contains([]int{0, 1, 2, 3}, p.Limiter) {
		return 11
	}
	for k, r := range p.Rains {
		there := r.Cell >= 0 && r.Cell <= 6*p.Side*p.Side-1
		much := big.NewInt(r.Amount).CmpAbs(big.NewInt(1<<52)) > 0
		if k >= 1024 || !there || much || r.From < 0 || r.To < r.From {
			return 18
		}
	}
	return 0
}

// fault of a sea, as it is told.
type fault struct {
	at int
	e  api.Errno
}

// modelFaults: all of them, the one that is to be told first ahead of all others.
func modelFaults(side int, s api.Sea) []fault {
	if side < 1 || side > 32 {
		return []fault{{0, 10}}
	}
	cells := 6 * side * side
	var out []fault
	for k, n := range []int{len(s.Bed) - cells, len(s.Water) - cells, len(s.Tracer) - cells, len(s.Speed) - 2*cells} {
		if n != 0 {
			out = append(out, fault{k, 12})
		}
	}
	out = append(out, floatFaults(s.Bed, 1<<20, 13)...)
	if s.Sky < 0 || s.Sky > 1<<52 {
		out = append(out, fault{0, 17})
	}
	out = append(out, quantaFaults(s.Water, s.Sky, 14)...)
	out = append(out, quantaFaults(s.Tracer, 0, 15)...)
	out = append(out, floatFaults(s.Speed, 1<<10, 16)...)
	if s.Step < 0 || s.Step > 1<<62 {
		out = append(out, fault{0, 1})
	}
	return out
}

func floatFaults(list []float64, most float64, e api.Errno) []fault {
	var out []fault
	for k, x := range list {
		if !modelKept(x, most) {
			out = append(out, fault{k, e})
		}
	}
	return out
}

func quantaFaults(list []int64, more int64, e api.Errno) []fault {
	var out []fault
	sum := big.NewInt(more)
	for k, n := range list {
		sum.Add(sum, big.NewInt(n))
		if n < 0 || sum.Cmp(big.NewInt(1<<52)) > 0 {
			out = append(out, fault{k, e})
		}
	}
	return out
}

func modelCheck(side int, s api.Sea) (int, api.Errno) {
	first := append(modelFaults(side, s), fault{})[0]
	return first.at, first.e
}

// words: all that a sea is, as one list.
func words(s api.Sea) []uint64 {
	out := []uint64{uint64(len(s.Bed)), uint64(len(s.Water)), uint64(len(s.Tracer)), uint64(len(s.Speed)), uint64(s.Sky), uint64(s.Step)}
	for _, list := range [][]float64{s.Bed, s.Speed} {
		for _, x := range list {
			out = append(out, math.Float64bits(x))
		}
	}
	for _, list := range [][]int64{s.Water, s.Tracer} {
		for _, n := range list {
			out = append(out, uint64(n))
		}
	}
	return out
}

func modelSame(a, b api.Sea) bool { return slices.Equal(words(a), words(b)) }

// point on the cube, from -n to n along each axis: a cell is 2 wide.
type point [3]int

// mix: k, l and m times the three.
func mix(k, l, m int, p, q, r point) point {
	var out point
	for x := range out {
		out[x] = k*p[x] + l*q[x] + m*r[x]
	}
	return out
}

// modelFace: C, R and U of chapter 6's table.
func modelFace(face int) (c, r, u point) {
	x, y, z := point{1, 0, 0}, point{0, 1, 0}, point{0, 0, 1}
	minus := func(p point) point { return mix(-1, 0, 0, p, p, p) }
	three := [][3]point{{x, y, z}, {y, minus(x), z}, {minus(x), minus(y), z}, {minus(y), x, z}, {z, y, minus(x)}, {minus(z), y, x}}[face]
	return three[0], three[1], three[2]
}

// modelCell: the middle of a cell, and those of its four sides.
func modelCell(side, cell int) (point, [4]point) {
	c, r, u := modelFace(cell / (side * side))
	a, b := 2*(cell%side)+1-side, 2*(cell/side%side)+1-side
	at := func(a, b int) point { return mix(side, a, b, c, r, u) }
	return at(a, b), [4]point{at(a+1, b), at(a, b+1), at(a-1, b), at(a, b-1)}
}

// modelNet: the cells by their middles; the edges by the middles of the sides that they are, with the middles of their Lefts.
type modelNet struct {
	cells map[point]int
	edges map[point]int
	mids  []point // of cells
	marks []point // of edges
	lefts []point // of edges
}

func newModelNet(side int) modelNet {
	net := modelNet{cells: map[point]int{}, edges: map[point]int{}}
	for cell := range 6 * side * side {
		mid, over := modelCell(side, cell)
		net.cells[mid] = cell
		net.mids = append(net.mids, mid)
		for _, mark := range over {
			if _, old := net.edges[mark]; !old { // whoever comes first is its Left
				net.edges[mark] = len(net.marks)
				net.marks = append(net.marks, mark)
				net.lefts = append(net.lefts, mid)
			}
		}
	}
	return net
}

// modelRotation: where +x, +y and +z go in a turn.
func modelRotation(turn int) [3]point {
	x, _, _ := modelFace(turn / 4)
	var across []point
	for face := range 6 {
		if c, _, _ := modelFace(face); c[0]*x[0]+c[1]*x[1]+c[2]*x[2] == 0 {
			across = append(across, c)
		}
	}
	y := across[turn%4]
	return [3]point{x, y, {x[1]*y[2] - x[2]*y[1], x[2]*y[0] - x[0]*y[2], x[0]*y[1] - x[1]*y[0]}}
}

// modelTurned of a sea that can be: each new place is asked what came there.
func modelTurned(net modelNet, s api.Sea, turn int) api.Sea {
	r := modelRotation(turn)
	goes := func(p point) point { return mix(p[0], p[1], p[2], r[0], r[1], r[2]) }
	out := api.Sea{Sky: s.Sky, Step: s.Step}
	fromCell, fromEdge := make([]int, len(net.mids)), make([]int, len(net.marks))
	for cell, mid := range net.mids {
		fromCell[net.cells[goes(mid)]] = cell
	}
	for e, mark := range net.marks {
		fromEdge[net.edges[goes(mark)]] = e
	}
	for _, cell := range fromCell {
		out.Bed = append(out.Bed, s.Bed[cell])
		out.Water = append(out.Water, s.Water[cell])
		out.Tracer = append(out.Tracer, s.Tracer[cell])
	}
	for to, e := range fromEdge {
		speed := s.Speed[e]
		if goes(net.lefts[e]) != net.lefts[to] && speed != 0 {
			speed = -speed
		}
		out.Speed = append(out.Speed, speed)
	}
	return out
}
