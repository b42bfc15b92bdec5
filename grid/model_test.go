package grid

// The model: the chapters' own words, by the corners of cells; it leans on nothing of the package and of layer 6.

import (
	"cmp"
	"slices"
	"strings"

	"tarn/api"
)

// place: x, y and z.
type place [3]int

// axes of the faces: C, R and U, as layer 6's chapter has them.
const axes = `
+x +y +z
+y -x +z
-x -y +z
-y +x +z
+z +y -x
-z +y +x`

func axis(word string) place {
	var out place
	out[strings.IndexByte("xyz", word[1])] = 44 - int(word[0]) // '+' is 43, '-' is 45
	return out
}

// stretch: the two corners of a side of a cell, in an order that doesn't hang on the cell.
type stretch [2]place

// corners of a cell, in such an order that side s goes from corner s to corner s + 1: the southern end of East is the first.
func corners(side, cell int) [4]place {
	words := strings.Fields(axes)[3*(cell/side/side):]
	c, r, u := axis(words[0]), axis(words[1]), axis(words[2])
	west, south := 2*(cell%side)-side, 2*(cell/side%side)-side
	var out [4]place
	for k, at := range [4][2]int{{west + 2, south}, {west + 2, south + 2}, {west, south + 2}, {west, south}} {
		for x := range 3 {
			out[k][x] = side*c[x] + at[0]*r[x] + at[1]*u[x]
		}
	}
	return out
}

// net: a model's edges in order, and who has which stretch: the two pairs of a cell and its side, the lesser cell first.
type net struct {
	side   int
	edges  []api.Edge
	owners map[stretch][][2]int
	mine   map[[2]int]stretch
}

func modelNet(side int) net {
	out := net{side: side, owners: map[stretch][][2]int{}, mine: map[[2]int]stretch{}}
	for cell := range 6 * side * side {
		at := corners(side, cell)
		for s := range 4 {
			p, q := at[s], at[(s+1)%4]
			if slices.Compare(p[:], q[:]) > 0 {
				p, q = q, p
			}
			x := stretch{p, q}
			out.mine[[2]int{cell, s}] = x
			out.owners[x] = append(out.owners[x], [2]int{cell, s})
		}
	}
	for _, two := range out.owners {
		if len(two) != 2 || two[0][0] >= two[1][0] {
			panic("the model's stretch hasn't two owners")
		}
		out.edges = append(out.edges, api.Edge{Left: two[0][0], Side: two[0][1], Right: two[1][0], Back: two[1][1]})
	}
	slices.SortFunc(out.edges, func(a, b api.Edge) int {
		return cmp.Or(cmp.Compare(a.Left, b.Left), cmp.Compare(a.Side, b.Side))
	})
	return out
}

// over: the cell that lies over a side of a cell.
func (m net) over(cell, side int) int {
	two := m.owners[m.mine[[2]int{cell, side}]]
	if two[0][0] == cell {
		return two[1][0]
	}
	return two[0][0]
}
