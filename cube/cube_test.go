package cube

import (
	"math"
	"testing"
)

const greatest = 32 // side

// wild: whole numbers that are no side, face, place, cell, side of a cell or turn, whichever is asked for; some make products wrap round to small ones.
func wild() []int {
	return []int{math.MinInt, math.MinInt + 1, -1 << 62, -1 << 32, -1 << 31, -7000, -33, -24, -6, -4, -2, -1,
		6144 + 1, 7000, 1<<31 - 1, 1 << 31, 1 << 32, 1<<32 + 1, 1 << 61, 1 << 62, 1<<62 + 1, math.MaxInt - 1, math.MaxInt}
}

// numbers: the wild ones, and all that are near to what may be there.
func numbers() []int {
	out := wild()
	for k := range 40 {
		out = append(out, k)
	}
	return append(out, 53, 54, 55, 5765, 5766, 5767, 6143, 6144, 6145)
}

func within(k, from, to int) bool { return k >= from && k <= to }

// P6.1.
func TestCells(t *testing.T) {
	for _, side := range numbers() {
		want := 0
		if within(side, 1, greatest) {
			want = 6 * side * side
		}
		if n := Cells(side); n != want {
			t.Errorf("Cells(%d) is %d, not %d", side, n, want)
		}
	}
	for _, c := range [][2]int{{2, 24}, {0, 0}, {33, 0}, {1, 6}, {32, 6144}} {
		if n := Cells(c[0]); n != c[1] {
			t.Errorf("Cells(%d) is %d, not %d", c[0], n, c[1])
		}
	}
}

// P6.1: the numbers of all cells go up by i, then by j, then by the face, and Place goes back.
func TestCellAndPlace(t *testing.T) {
	for side := 1; side <= greatest; side++ {
		number := 0
		for face := range 6 {
			for j := range side {
				for i := range side {
					if c := Cell(side, face, i, j); c != number {
						t.Fatalf("Cell(%d, %d, %d, %d) is %d, not %d", side, face, i, j, c, number)
					}
					if f, a, b, ok := Place(side, number); f != face || a != i || b != j || !ok {
						t.Fatalf("Place(%d, %d) is %d, %d, %d, %v", side, number, f, a, b, ok)
					}
					number++
				}
			}
		}
		for _, past := range []int{number, number + 1, -1} {
			if f, i, j, ok := Place(side, past); f != 0 || i != 0 || j != 0 || ok {
				t.Errorf("Place(%d, %d) is %d, %d, %d, %v", side, past, f, i, j, ok)
			}
		}
	}
}

// P6.1: what isn't there.
func TestNoSuchCell(t *testing.T) {
	for _, side := range numbers() {
		for _, k := range numbers() {
			can := within(side, 1, greatest)
			if c := Cell(side, k, 0, 0); (c == -1) == (can && within(k, 0, 5)) {
				t.Errorf("Cell(%d, %d, 0, 0) is %d", side, k, c)
			}
			if c := Cell(side, 5, k, 0); (c == -1) == (can && within(k, 0, side-1)) {
				t.Errorf("Cell(%d, 5, %d, 0) is %d", side, k, c)
			}
			if c := Cell(side, 5, 0, k); (c == -1) == (can && within(k, 0, side-1)) {
				t.Errorf("Cell(%d, 5, 0, %d) is %d", side, k, c)
			}
			f, i, j, ok := Place(side, k)
			if ok != (can && within(k, 0, 6*side*side-1)) {
				t.Errorf("Place(%d, %d) answers %v", side, k, ok)
			}
			if !ok && (f != 0 || i != 0 || j != 0) {
				t.Errorf("Place(%d, %d) is %d, %d, %d beside false", side, k, f, i, j)
			}
		}
	}
	for _, c := range [][5]int{{2, 0, 1, 0, 1}, {3, 4, 2, 2, 44}, {2, 6, 0, 0, -1}, {2, 0, 2, 0, -1}, {2, 0, 0, 2, -1}, {2, 0, -1, 1, -1}} {
		if n := Cell(c[0], c[1], c[2], c[3]); n != c[4] {
			t.Errorf("Cell(%d, %d, %d, %d) is %d, not %d", c[0], c[1], c[2], c[3], n, c[4])
		}
	}
	if f, i, j, ok := Place(3, 44); f != 4 || i != 2 || j != 2 || !ok {
		t.Errorf("Place(3, 44) is %d, %d, %d, %v", f, i, j, ok)
	}
}

// P6.2: over each side of each cell of each net lies the one other cell that has that stretch.
func TestBesideIsWhoHasTheStretch(t *testing.T) {
	for side := 1; side <= greatest; side++ {
		owners := stretches(side)
		if len(owners) != 12*side*side {
			t.Fatalf("the model of side %d has %d stretches", side, len(owners))
		}
		for s, two := range owners {
			if len(two) != 2 {
				t.Fatalf("the model's stretch %v of side %d has %d owners", s, side, len(two))
			}
			for k, own := range two {
				other := two[1-k]
				if c, back := Beside(side, own.cell, own.side); c != other.cell || back != other.side {
					t.Errorf("Beside(%d, %d, %d) is %d, %d, not %d, %d", side, own.cell, own.side, c, back, other.cell, other.side)
				}
			}
		}
	}
}

// P6.2: there and back, and never to itself.
func TestBesideAndBack(t *testing.T) {
	for side := 1; side <= greatest; side++ {
		for cell := range 6 * side * side {
			for over := range 4 {
				c, back := Beside(side, cell, over)
				if c == cell {
					t.Errorf("cell %d of side %d lies beside itself", cell, side)
				}
				if d, s := Beside(side, c, back); d != cell || s != over {
					t.Errorf("Beside(%d, %d, %d) is %d, %d, but back again %d, %d", side, cell, over, c, back, d, s)
				}
			}
		}
	}
}

// P6.2: the chapter's examples.
func TestBesideExamples(t *testing.T) {
	for _, e := range []struct {
		side, cell int
		over       [4][2]int
	}{
		{2, 1, [4][2]int{{4, 2}, {3, 3}, {0, 0}, {23, 1}}},
		{2, 0, [4][2]int{{1, 2}, {2, 3}, {13, 0}, {22, 1}}},
		{3, 44, [4][2]int{{17, 1}, {24, 1}, {43, 0}, {41, 1}}},
		{1, 0, [4][2]int{{1, 2}, {4, 3}, {3, 0}, {5, 1}}},
		{1, 4, [4][2]int{{1, 1}, {2, 1}, {3, 1}, {0, 1}}},
	} {
		for over, want := range e.over {
			if c, back := Beside(e.side, e.cell, over); c != want[0] || back != want[1] {
				t.Errorf("Beside(%d, %d, %d) is %d, %d, not %v", e.side, e.cell, over, c, back, want)
			}
		}
	}
}

// P6.2: what isn't there.
func TestNothingBeside(t *testing.T) {
	for _, side := range numbers() {
		for _, k := range numbers() {
			for _, over := range numbers() {
				c, back := Beside(side, k, over)
				if within(side, 1, greatest) && within(k, 0, 6*side*side-1) && within(over, 0, 3) {
					if c < 0 {
						t.Errorf("Beside(%d, %d, %d) is %d, %d", side, k, over, c, back)
					}
				} else if c != -1 || back != 0 {
					t.Errorf("Beside(%d, %d, %d) is %d, %d", side, k, over, c, back)
				}
			}
		}
	}
}
