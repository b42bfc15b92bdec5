package cube

// The model: the chapter's own words, by the corners of cells; it leans on nothing of the package.

import (
	"slices"
	"strings"
)

// spot: x, y and z.
type spot [3]int

// axes of the faces: C, R and U, as the chapter's table has them.
const axes = `
+x +y +z
+y -x +z
-x -y +z
-y +x +z
+z +y -x
-z +y +x`

func axis(word string) spot {
	var out spot
	out[strings.IndexByte("xyz", word[1])] = 44 - int(word[0]) // '+' is 43, '-' is 45
	return out
}

func modelFace(face int) (c, r, u spot) {
	words := strings.Fields(axes)[3*face:]
	return axis(words[0]), axis(words[1]), axis(words[2])
}

// mix: k, l and m times the three.
func mix(k, l, m int, p, q, r spot) spot {
	var out spot
	for x := range out {
		out[x] = k*p[x] + l*q[x] + m*r[x]
	}
	return out
}

// corners of a cell, in such an order that side s goes from corner s to corner s + 1: the southern end of East is the first.
func corners(side, cell int) [4]spot {
	i, j := cell%side, cell/side%side
	c, r, u := modelFace(cell / (side * side))
	west, south := 2*i-side, 2*j-side
	east, north := west+2, south+2
	return [4]spot{mix(side, east, south, c, r, u), mix(side, east, north, c, r, u), mix(side, west, north, c, r, u), mix(side, west, south, c, r, u)}
}

// stretch: two corners, in an order that doesn't hang on the cell.
type stretch [2]spot

func between(p, q spot) stretch {
	if slices.Compare(p[:], q[:]) > 0 {
		p, q = q, p
	}
	return stretch{p, q}
}

type owner struct{ cell, side int }

// stretches of a net, each with the cells and their sides that have it.
func stretches(side int) map[stretch][]owner {
	out := map[stretch][]owner{}
	for cell := range 6 * side * side {
		at := corners(side, cell)
		for s := range 4 {
			x := between(at[s], at[(s+1)%4])
			out[x] = append(out[x], owner{cell, s})
		}
	}
	return out
}

// modelTurn: where +x, +y and +z go in a turn.
func modelTurn(turn int) [3]spot {
	x, _, _ := modelFace(turn / 4)
	k := turn % 4
	var y spot
	for face := range 6 {
		c, _, _ := modelFace(face)
		if c == x || c == mix(-1, 0, 0, x, x, x) {
			continue
		}
		if k == 0 {
			y = c
		}
		k--
	}
	return [3]spot{x, y, {x[1]*y[2] - x[2]*y[1], x[2]*y[0] - x[0]*y[2], x[0]*y[1] - x[1]*y[0]}}
}

func turned(r [3]spot, p spot) spot {
	return mix(p[0], p[1], p[2], r[0], r[1], r[2])
}

// byCorner: for each corner of each cell the cell and the corner's number, found by the corner and the two behind it.
func byCorner(side int) map[[3]spot]owner {
	out := map[[3]spot]owner{}
	for cell := range 6 * side * side {
		at := corners(side, cell)
		for k := range 4 {
			out[[3]spot{at[k], at[(k+1)%4], at[(k+2)%4]}] = owner{cell, k}
		}
	}
	return out
}
