package split

import (
	"math"
	"slices"
	"testing"

	"tarn/api"
	"tarn/cube"
	"tarn/grid"
)

const (
	last  = math.MaxInt
	first = math.MinInt
)

func made(t *testing.T, side int) *grid.Grid {
	t.Helper()
	g, errno := grid.New(side)
	if g == nil || errno != api.OK {
		t.Fatalf("grid.New(%d) is %v, %d", side, g, errno)
	}
	return g
}

// parted: the parts, held against the model.
func parted(t *testing.T, g *grid.Grid, parts int) []Part {
	t.Helper()
	list, errno := Split(g, parts)
	if errno != api.OK || len(list) != parts {
		t.Fatalf("side %d in %d parts: %d of them, error %d", g.Side(), parts, len(list), errno)
	}
	for k, want := range modelSplit(g.Side(), parts) {
		if !samePart(list[k], want) {
			t.Fatalf("side %d: part %d of %d is\n%v, want\n%v", g.Side(), k, parts, list[k], want)
		}
	}
	return list
}

// upTo: the numbers from 0 up to ahead of n.
func upTo(n int) []int {
	list := []int{}
	for k := range n {
		list = append(list, k)
	}
	return list
}

// The chapter's first example.
func TestSideOne(t *testing.T) {
	g := made(t, 1)
	if list := parted(t, g, 1); !samePart(list[0], Part{Cells: upTo(6), Edges: upTo(12)}) {
		t.Errorf("in one part: %v", list)
	}
	list := parted(t, g, 6)
	for k, want := range []Part{
		{Cells: []int{0}, Edges: []int{0, 1, 2, 3}, Halo: []int{1, 2, 3, 4, 5}},
		{Cells: []int{1}, Edges: []int{4, 5, 6}, Halo: []int{0, 2, 3, 4, 5}},
		{Cells: []int{2}, Edges: []int{7, 8, 9}, Halo: []int{0, 1, 3, 4, 5}},
		{Cells: []int{3}, Edges: []int{10, 11}, Halo: []int{1, 4, 5}},
		{Cells: []int{4}},
		{Cells: []int{5}},
	} {
		if !samePart(list[k], want) {
			t.Errorf("part %d of six is %v, want %v", k, list[k], want)
		}
	}
}

// The chapter's second example: more parts than cells.
func TestMorePartsThanCells(t *testing.T) {
	list := parted(t, made(t, 1), 64)
	for k, part := range list {
		if len(part.Cells) > 1 {
			t.Errorf("part %d has %v", k, part)
		}
		if len(part.Cells) == 0 && len(part.Edges)+len(part.Halo) != 0 {
			t.Errorf("part %d has no cell, but %v", k, part)
		}
	}
	if !samePart(list[0], Part{}) {
		t.Errorf("the first part is %v", list[0])
	}
	if !samePart(list[10], Part{Cells: []int{0}, Edges: upTo(4), Halo: []int{1, 2, 3, 4, 5}}) {
		t.Errorf("part 10 is %v", list[10])
	}
	for side, empty := range map[int]int{1: 58, 2: 40, 3: 10, 4: 0} {
		n := 0
		for _, part := range parted(t, made(t, side), 64) {
			if len(part.Cells) == 0 {
				n++
			}
		}
		if n != empty {
			t.Errorf("side %d: %d parts of 64 have no cell, want %d", side, n, empty)
		}
	}
}

// The chapter's third example, and the errors of Split: a nil net ahead of all else, and parts just outside and at both ends.
func TestSplitRefuses(t *testing.T) {
	wrong := []int{0, 65, -1, 66, 128, -64, 1 << 32, 1<<32 + 1, -1<<32 + 1, first, first + 1, last - 1, last}
	for _, side := range []int{1, 2, 32} {
		g := made(t, side)
		for _, parts := range wrong {
			if list, errno := Split(g, parts); errno != api.ErrArg || len(list) != 0 {
				t.Errorf("side %d in %d parts: %v, %d", side, parts, list, errno)
			}
		}
		parted(t, g, 1)
		parted(t, g, 64)
	}
	for _, parts := range append(wrong, 1, 2, 64) {
		if list, errno := Split(nil, parts); errno != api.ErrNil || len(list) != 0 {
			t.Errorf("no net in %d parts: %v, %d", parts, list, errno)
		}
	}
}

// checkShares: P22.2.
func checkShares(t *testing.T, g *grid.Grid, list []Part) {
	t.Helper()
	cells, edges := make([]int, g.Cells()), make([]int, g.Edges())
	fewest, most := g.Cells(), 0
	for _, part := range list {
		for _, cell := range part.Cells {
			cells[cell]++
		}
		for _, e := range part.Edges {
			edges[e]++
		}
		fewest, most = min(fewest, len(part.Cells)), max(most, len(part.Cells))
	}
	notOnce := func(n int) bool { return n != 1 }
	if slices.ContainsFunc(cells, notOnce) || slices.ContainsFunc(edges, notOnce) {
		t.Fatalf("side %d in %d parts: cells %v and edges %v times", g.Side(), len(list), cells, edges)
	}
	if most-fewest > 1 {
		t.Fatalf("side %d in %d parts: from %d to %d cells", g.Side(), len(list), fewest, most)
	}
}

// checkHalo: that the lists rise and that no halo has a cell of its own part.
func checkHalo(t *testing.T, g *grid.Grid, part Part) {
	t.Helper()
	for _, list := range [][]int{part.Cells, part.Edges, part.Halo} {
		for k := range list {
			if k > 0 && list[k] <= list[k-1] {
				t.Fatalf("side %d: %v doesn't rise", g.Side(), list)
			}
		}
	}
	for _, cell := range part.Halo {
		if slices.Contains(part.Cells, cell) {
			t.Fatalf("side %d: cell %d is in the halo of its own part", g.Side(), cell)
		}
	}
}

// P22.1, P22.2: every number of parts over nets of many sizes.
func TestAllParts(t *testing.T) {
	for side := 1; side <= 32; side++ {
		g := made(t, side)
		for parts := 1; parts <= 64; parts++ {
			if side > 6 && (side+parts)%7 > 0 && parts < 64 {
				continue
			}
			list := parted(t, g, parts)
			checkShares(t, g, list)
			for _, part := range list {
				checkHalo(t, g, part)
			}
		}
	}
}

// P22.1: the numbers of cells where they aren't shared out evenly, spelt out.
func TestUnevenParts(t *testing.T) {
	for _, x := range []struct {
		side, parts int
		ends        []int
	}{
		{1, 4, []int{1, 3, 4, 6}},
		{1, 5, []int{1, 2, 3, 4, 6}},
		{2, 5, []int{4, 9, 14, 19, 24}},
		{2, 7, []int{3, 6, 10, 13, 17, 20, 24}},
	} {
		begin := 0
		for k, part := range parted(t, made(t, x.side), x.parts) {
			if !slices.Equal(part.Cells, upTo(x.ends[k])[begin:]) {
				t.Errorf("side %d: part %d of %d has the cells %v", x.side, k, x.parts, part.Cells)
			}
			begin = x.ends[k]
		}
	}
}

// P22.1: parts of one cell each at the corners of the cube, where three faces meet, and one in the midst of a face.
func TestRoundCorners(t *testing.T) {
	side := 3
	g := made(t, side) // 54 cells: in 54 parts each has its own part
	list := parted(t, g, 54)
	corners := 0
	for cell, part := range list {
		if !slices.Equal(part.Cells, []int{cell}) {
			t.Fatalf("part %d has the cells %v", cell, part.Cells)
		}
		face, i, j, _ := cube.Place(side, cell)
		if i == 1 || j == 1 {
			continue
		}
		corners++
		want := []int{}
		for over := range 4 {
			e, sign := g.Around(cell, over)
			if sign < 0 {
				continue
			}
			if !slices.Contains(part.Edges, e) {
				t.Errorf("face %d, %d, %d lacks edge %d", face, i, j, e)
			}
			beside, back := cube.Beside(side, cell, over)
			across, _ := cube.Beside(side, beside, (back+2)%4)
			behind, _ := cube.Beside(side, cell, (over+2)%4)
			want = append(want, beside, across, behind)
		}
		slices.Sort(want)
		if want = slices.Compact(want); !slices.Equal(part.Halo, want) {
			t.Errorf("face %d, %d, %d: halo %v, want %v", face, i, j, part.Halo, want)
		}
	}
	if corners != 24 {
		t.Errorf("%d corners", corners)
	}
	// The middle of face 0: what lies beside it is of its own face, what lies beyond that of the faces 1 and 4.
	if want := (Part{Cells: []int{4}, Edges: []int{13, 14}, Halo: []int{1, 3, 5, 7, 12, 37}}); !samePart(list[4], want) {
		t.Errorf("the middle of face 0: %v, want %v", list[4], want)
	}
	// Its first cell: the faces 3 and 5 lie beside it.
	if want := (Part{Cells: []int{0}, Edges: []int{0, 1, 2, 3}, Halo: []int{1, 2, 3, 6, 28, 29, 48, 51}}); !samePart(list[0], want) {
		t.Errorf("the first corner of face 0: %v, want %v", list[0], want)
	}
}
