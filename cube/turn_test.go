package cube

import "testing"

// P6.3: every turn makes of a cell the one that its square becomes, corner by corner.
func TestTurnTakesTheSquare(t *testing.T) {
	for _, side := range []int{1, 2, 3, 4, 5, 6, 7, 8, 15, 16, 31, 32} {
		cells := byCorner(side)
		for turn := range 24 {
			r := modelTurn(turn)
			for cell := range 6 * side * side {
				at := corners(side, cell)
				want, ok := cells[[3]spot{turned(r, at[0]), turned(r, at[1]), turned(r, at[2])}]
				if !ok {
					t.Fatalf("the model's turn %d of cell %d of side %d is no cell", turn, cell, side)
				}
				if c, q := Turn(side, turn, cell); c != want.cell || q != want.side {
					t.Fatalf("Turn(%d, %d, %d) is %d, %d, not %d, %d", side, turn, cell, c, q, want.cell, want.side)
				}
			}
		}
	}
}

// P6.3: turns keep what lies beside.
func TestTurnKeepsBeside(t *testing.T) {
	for _, side := range []int{1, 2, 3, 4, 7, 31, 32} {
		for turn := range 24 {
			for cell := range 6 * side * side {
				c, q := Turn(side, turn, cell)
				for s := range 4 {
					next, back := Beside(side, cell, s)
					d, p := Turn(side, turn, next)
					want, side2 := Beside(side, c, (s+q)%4)
					if d != want || (back+p)%4 != side2 {
						t.Fatalf("side %d, turn %d, cell %d, over %d: %d with %d, not %d with %d", side, turn, cell, s, d, (back+p)%4, want, side2)
					}
				}
			}
		}
	}
}

// P6.3: a turn takes each cell to another one, and no two turns are alike, though of side 1 there are but six cells.
func TestTurnsDiffer(t *testing.T) {
	for side := 1; side <= 4; side++ {
		seen := map[string]int{}
		for turn := range 24 {
			became := make([]byte, 0, 12*side*side)
			hit := map[int]bool{}
			for cell := range 6 * side * side {
				c, q := Turn(side, turn, cell)
				hit[c] = true
				became = append(became, byte(c), byte(q))
			}
			if len(hit) != 6*side*side {
				t.Errorf("turn %d of side %d fills %d cells", turn, side, len(hit))
			}
			if other, ok := seen[string(became)]; ok {
				t.Errorf("turns %d and %d of side %d do the same", other, turn, side)
			}
			seen[string(became)] = turn
		}
	}
}

// P6.3: the chapter's examples, and some more cells.
func TestTurnExamples(t *testing.T) {
	for _, e := range [][3]int{{0, 1, 0}, {1, 2, 2}, {2, 3, 1}, {3, 0, 3}, {4, 6, 2}, {5, 5, 0}, {23, 22, 2}, {24, -1, 0}} {
		if c, q := Turn(2, e[0], 1); c != e[1] || q != e[2] {
			t.Errorf("Turn(2, %d, 1) is %d, %d, not %d, %d", e[0], c, q, e[1], e[2])
		}
	}
	for side := 1; side <= greatest; side++ {
		for cell := range 6 * side * side {
			if c, q := Turn(side, 0, cell); c != cell || q != 0 {
				t.Errorf("turn 0 makes %d, %d of cell %d of side %d", c, q, cell, side)
			}
		}
	}
}

// P6.3: what isn't there.
func TestNoSuchTurn(t *testing.T) {
	for _, side := range numbers() {
		for _, turn := range numbers() {
			for _, cell := range numbers() {
				c, q := Turn(side, turn, cell)
				if within(side, 1, greatest) && within(turn, 0, 23) && within(cell, 0, 6*side*side-1) {
					if c < 0 {
						t.Errorf("Turn(%d, %d, %d) is %d, %d", side, turn, cell, c, q)
					}
				} else if c != -1 || q != 0 {
					t.Errorf("Turn(%d, %d, %d) is %d, %d", side, turn, cell, c, q)
				}
			}
		}
	}
}

// P6.4: of every two turns After does to every cell what the first and then the second does, and it alone.
func TestAfterIsBoth(t *testing.T) {
	for second := range 24 {
		for first := range 24 {
			both := After(second, first)
			if !within(both, 0, 23) {
				t.Fatalf("After(%d, %d) is %d", second, first, both)
			}
			for _, side := range []int{1, 2, 5} {
				for cell := range 6 * side * side {
					c, q := Turn(side, first, cell)
					c, p := Turn(side, second, c)
					if d, r := Turn(side, both, cell); d != c || r != (q+p)%4 {
						t.Fatalf("After(%d, %d) is %d, which makes %d, %d of cell %d of side %d, not %d, %d", second, first, both, d, r, cell, side, c, (q+p)%4)
					}
				}
			}
			f, g, h := modelTurn(first), modelTurn(second), modelTurn(both)
			for k := range 3 {
				if turned(g, f[k]) != h[k] {
					t.Fatalf("After(%d, %d) is %d, which takes axis %d to %v, not %v", second, first, both, k, h[k], turned(g, f[k]))
				}
			}
		}
	}
}

// P6.4: turn 0 does nothing, and each turn has one that undoes it.
func TestAfterUndoes(t *testing.T) {
	for turn := range 24 {
		if After(turn, 0) != turn || After(0, turn) != turn {
			t.Errorf("turn %d with turn 0 is %d and %d", turn, After(turn, 0), After(0, turn))
		}
		undone := 0
		for other := range 24 {
			if After(other, turn) == 0 && After(turn, other) == 0 {
				undone++
			}
		}
		if undone != 1 {
			t.Errorf("turn %d is undone by %d turns", turn, undone)
		}
	}
}

// P6.4: the chapter's examples, and what isn't there.
func TestAfterExamples(t *testing.T) {
	for _, e := range [][3]int{{4, 1, 5}, {1, 4, 12}, {1, 1, 0}, {23, 23, 0}, {16, 20, 14}, {24, 0, -1}, {0, 24, -1}, {-1, 0, -1}, {0, -1, -1}} {
		if c := After(e[0], e[1]); c != e[2] {
			t.Errorf("After(%d, %d) is %d, not %d", e[0], e[1], c, e[2])
		}
	}
	for _, second := range numbers() {
		for _, first := range numbers() {
			can := within(second, 0, 23) && within(first, 0, 23)
			if c := After(second, first); can != (c >= 0) || !can && c != -1 {
				t.Errorf("After(%d, %d) is %d", second, first, c)
			}
		}
	}
}
