package grid

import (
	"math"
	"slices"
	"sync"
	"testing"

	"tarn/api"
	"tarn/cube"
	"tarn/geom"
)

const greatest = 32 // side

func same(x, y float64) bool { return math.Float64bits(x) == math.Float64bits(y) }

func within(k, from, to int) bool { return k >= from && k <= to }

// wild: whole numbers that are nothing of a net; some make products and sums wrap round to small ones.
func wild() []int {
	return []int{math.MinInt, math.MinInt + 1, -1 << 62, -1 << 32, -1 << 31, -12289, -7000, -33, -32, -12, -6, -4, -3, -2, -1,
		12 * greatest * greatest, 12*greatest*greatest + 1, 1<<31 - 1, 1 << 31, 1 << 32, 1<<32 + 1, 1 << 61, 1 << 62, 1<<62 + 1, math.MaxInt - 1, math.MaxInt}
}

func made(t *testing.T, side int) *Grid {
	t.Helper()
	g, err := New(side)
	if g == nil || err != api.OK {
		t.Fatalf("New(%d) is %v, %d", side, g, err)
	}
	return g
}

// forSides: all of them.
func forSides(t *testing.T, try func(t *testing.T, side int, g *Grid)) {
	for side := 1; side <= greatest; side++ {
		try(t, side, made(t, side))
	}
}

// P9.1.
func TestNumbersOfTheNet(t *testing.T) {
	forSides(t, func(t *testing.T, side int, g *Grid) {
		if g.Side() != side || g.Cells() != 6*side*side || g.Edges() != 12*side*side {
			t.Errorf("side %d: Side %d, Cells %d, Edges %d", side, g.Side(), g.Cells(), g.Edges())
		}
	})
}

// P9.1: sides that there are not.
func TestNoSuchSideOfANet(t *testing.T) {
	for _, side := range append(wild(), 0, greatest+1, greatest+2, 64, 65, 100) {
		if g, err := New(side); g != nil || err != api.ErrSide {
			t.Errorf("New(%d) is %v, %d", side, g, err)
		}
	}
}

// P9.2: every edge of every net.
func TestEdges(t *testing.T) {
	forSides(t, func(t *testing.T, side int, g *Grid) {
		for e, want := range modelNet(side).edges {
			if x, ok := g.Edge(e); !ok || x != want {
				t.Errorf("side %d: Edge(%d) is %v, %v, not %v", side, e, x, ok, want)
			}
		}
	})
}

// P9.2: the order, by itself: of the Left, of one Left of the Side.
func TestOrderOfEdges(t *testing.T) {
	forSides(t, func(t *testing.T, side int, g *Grid) {
		last := api.Edge{Left: -1}
		for e := range g.Edges() {
			x, _ := g.Edge(e)
			if x.Left >= x.Right || x.Left < last.Left || x.Left == last.Left && x.Side <= last.Side {
				t.Errorf("side %d: behind %v comes %v", side, last, x)
			}
			last = x
		}
	})
}

// P9.3: every side of every cell, so every edge from both of its cells.
func TestAround(t *testing.T) {
	forSides(t, func(t *testing.T, side int, g *Grid) {
		for e, x := range modelNet(side).edges {
			if n, sign := g.Around(x.Left, x.Side); n != e || sign != 1 {
				t.Errorf("side %d: Around(%d, %d) is %d, %d, not %d, 1", side, x.Left, x.Side, n, sign, e)
			}
			if n, sign := g.Around(x.Right, x.Back); n != e || sign != -1 {
				t.Errorf("side %d: Around(%d, %d) is %d, %d, not %d, -1", side, x.Right, x.Back, n, sign, e)
			}
		}
	})
}

// P9.3: no cell, no side of a cell, and neither.
func TestNothingAround(t *testing.T) {
	forSides(t, func(t *testing.T, side int, g *Grid) {
		cells := g.Cells()
		for _, cell := range append(wild(), 0, 1, cells-1, cells, cells+1, 2*cells-1) {
			for _, over := range append(wild(), 0, 1, 2, 3, 4, 5, 6, 7, 8) {
				e, sign := g.Around(cell, over)
				if within(cell, 0, cells-1) && within(over, 0, 3) {
					if sign != 1 && sign != -1 {
						t.Errorf("side %d: Around(%d, %d) is %d, %d", side, cell, over, e, sign)
					}
				} else if e != 0 || sign != 0 {
					t.Errorf("side %d: Around(%d, %d) is %d, %d", side, cell, over, e, sign)
				}
			}
		}
	})
}

// P9.4: behind every edge of every net.
func TestBehind(t *testing.T) {
	forSides(t, func(t *testing.T, side int, g *Grid) {
		m := modelNet(side)
		for e, x := range m.edges {
			left, right := m.over(x.Left, (x.Side+2)%4), m.over(x.Right, (x.Back+2)%4)
			if p, q, ok := g.Behind(e); !ok || p != left || q != right {
				t.Errorf("side %d: Behind(%d) is %d, %d, %v, not %d, %d", side, e, p, q, ok, left, right)
			}
		}
	})
}

// P9.5: of every cell and edge, from the edge's Left and from its Right.
func TestSizes(t *testing.T) {
	forSides(t, func(t *testing.T, side int, g *Grid) {
		for cell := range 6 * side * side {
			if a, want := g.Area(cell), geom.Area(side, cell); a != want || a < 1 {
				t.Errorf("side %d: Area(%d) is %d, not %d", side, cell, a, want)
			}
		}
		for e, x := range modelNet(side).edges {
			l, gap := g.Length(e), g.Gap(e)
			if !same(l, geom.Length(side, x.Left, x.Side)) || !same(l, geom.Length(side, x.Right, x.Back)) || !(l > 0) {
				t.Errorf("side %d: Length(%d) is %x", side, e, l)
			}
			if !same(gap, geom.Gap(side, x.Left, x.Side)) || !same(gap, geom.Gap(side, x.Right, x.Back)) || !(gap > 0) {
				t.Errorf("side %d: Gap(%d) is %x", side, e, gap)
			}
		}
	})
}

// noEdge: that nothing is told of an edge.
func noEdge(t *testing.T, g *Grid, e int) {
	t.Helper()
	if x, ok := g.Edge(e); ok || x != (api.Edge{}) {
		t.Errorf("side %d: Edge(%d) is %v, %v", g.Side(), e, x, ok)
	}
	if p, q, ok := g.Behind(e); ok || p != 0 || q != 0 {
		t.Errorf("side %d: Behind(%d) is %d, %d, %v", g.Side(), e, p, q, ok)
	}
	if l, gap := g.Length(e), g.Gap(e); !same(l, 0) || !same(gap, 0) {
		t.Errorf("side %d: Length(%d) is %x, Gap %x", g.Side(), e, l, gap)
	}
}

// P9.2, P9.4, P9.5: edges that there are not.
func TestNoSuchEdge(t *testing.T) {
	forSides(t, func(t *testing.T, side int, g *Grid) {
		edges := 12 * side * side
		for _, e := range append(wild(), edges, edges+1, 2*edges) {
			noEdge(t, g, e)
		}
		for _, e := range []int{0, edges - 1} {
			if _, ok := g.Edge(e); !ok {
				t.Errorf("side %d: there is no edge %d", side, e)
			}
		}
	})
}

// P9.5: cells that there are not.
func TestNoAreaOfNoCell(t *testing.T) {
	forSides(t, func(t *testing.T, side int, g *Grid) {
		cells := 6 * side * side
		for _, cell := range append(wild(), cells, cells+1, 2*cells-1, 2*cells) {
			if a := g.Area(cell); a != 0 {
				t.Errorf("side %d: Area(%d) is %d", side, cell, a)
			}
		}
	})
}

// turned: the edge that an edge becomes, and whether its Left becomes a Left.
func turned(g *Grid, turn, e int) (int, bool) {
	x, _ := g.Edge(e)
	cell, q := cube.Turn(g.Side(), turn, x.Left)
	to, sign := g.Around(cell, (x.Side+q)%4)
	return to, sign == 1
}

// P5: by every turn edges become edges, each once, with what lies behind them and with their sizes.
func TestFacesAreAlike(t *testing.T) {
	for _, side := range []int{1, 2, 3, 4, 5, 8, 31, 32} {
		g := made(t, side)
		for turn := range 24 {
			met := make([]bool, g.Edges())
			for e := range met {
				to, straight := turned(g, turn, e)
				if met[to] {
					t.Errorf("side %d: two edges become %d by turn %d", side, to, turn)
				}
				met[to] = true
				if !same(g.Length(to), g.Length(e)) || !same(g.Gap(to), g.Gap(e)) {
					t.Errorf("side %d: edge %d has other sizes behind turn %d", side, e, turn)
				}
				left, right, _ := g.Behind(e)
				left, _ = cube.Turn(side, turn, left)
				right, _ = cube.Turn(side, turn, right)
				if !straight {
					left, right = right, left
				}
				if p, q, _ := g.Behind(to); p != left || q != right {
					t.Errorf("side %d: behind turn %d other cells lie behind edge %d", side, turn, e)
				}
			}
			for cell := range g.Cells() {
				if to, _ := cube.Turn(side, turn, cell); g.Area(to) != g.Area(cell) {
					t.Errorf("side %d: cell %d has another area behind turn %d", side, cell, turn)
				}
			}
		}
	}
}

// A nil Grid: zeros and false at all arguments.
func TestNilGrid(t *testing.T) {
	var g *Grid
	if g.Side() != 0 || g.Cells() != 0 || g.Edges() != 0 {
		t.Errorf("Side %d, Cells %d, Edges %d of no net", g.Side(), g.Cells(), g.Edges())
	}
	for _, k := range append(wild(), 0, 1, 2, 3, 4, 5, 6, 11, 12) {
		noEdge(t, g, k)
		if a := g.Area(k); a != 0 {
			t.Errorf("Area(%d) of no net is %d", k, a)
		}
		for over := -1; over <= 4; over++ {
			if e, sign := g.Around(k, over); e != 0 || sign != 0 {
				t.Errorf("Around(%d, %d) of no net is %d, %d", k, over, e, sign)
			}
		}
	}
}

// told: all that a net tells, in one row of numbers.
func told(g *Grid) []uint64 {
	out := []uint64{uint64(g.Side()), uint64(g.Cells()), uint64(g.Edges())}
	for cell := range g.Cells() {
		out = append(out, uint64(g.Area(cell)))
		for over := range 4 {
			e, sign := g.Around(cell, over)
			out = append(out, uint64(e), uint64(sign))
		}
	}
	for e := range g.Edges() {
		x, _ := g.Edge(e)
		p, q, _ := g.Behind(e)
		out = append(out, uint64(x.Left), uint64(x.Side), uint64(x.Right), uint64(x.Back), uint64(p), uint64(q),
			math.Float64bits(g.Length(e)), math.Float64bits(g.Gap(e)))
	}
	return out
}

// A net doesn't change, whoever asks at the same time, and whatever other nets are made; two of one side are alike.
func TestNetStays(t *testing.T) {
	g := made(t, 6)
	first := told(g)
	rows := make([][]uint64, 8)
	var all sync.WaitGroup
	for k := range rows {
		all.Go(func() {
			New(k)
			rows[k] = told(g)
		})
	}
	all.Wait()
	for k, row := range append(rows, told(g), told(made(t, 6))) {
		if !slices.Equal(row, first) {
			t.Errorf("asked again (%d) the net tells other things", k)
		}
	}
}

// The chapter's examples, and the document's seventh.
func TestExamples(t *testing.T) {
	for _, side := range []int{0, 33, -1} {
		if g, err := New(side); g != nil || err != api.ErrSide {
			t.Errorf("New(%d) is %v, %d", side, g, err)
		}
	}
	g := made(t, 1)
	if g.Cells() != 6 || g.Edges() != 12 {
		t.Errorf("Cells %d, Edges %d", g.Cells(), g.Edges())
	}
	for e, want := range []api.Edge{
		{Left: 0, Side: 0, Right: 1, Back: 2}, {Left: 0, Side: 1, Right: 4, Back: 3}, {Left: 0, Side: 2, Right: 3, Back: 0},
		{Left: 0, Side: 3, Right: 5, Back: 1}, {Left: 1, Side: 0, Right: 2, Back: 2},
	} {
		if x, ok := g.Edge(e); !ok || x != want {
			t.Errorf("Edge(%d) is %v, %v, not %v", e, x, ok, want)
		}
	}
	noEdge(t, g, -1)
	noEdge(t, g, 12)
	for _, c := range [][4]int{{0, 2, 2, 1}, {1, 2, 0, -1}, {6, 0, 0, 0}, {0, 4, 0, 0}, {0, -1, 0, 0}} {
		if e, sign := g.Around(c[0], c[1]); e != c[2] || sign != c[3] {
			t.Errorf("Around(%d, %d) is %d, %d", c[0], c[1], e, sign)
		}
	}
	if p, q, ok := g.Behind(0); p != 3 || q != 2 || !ok {
		t.Errorf("Behind(0) is %d, %d, %v", p, q, ok)
	}
	if a := g.Area(0); a != 1431655765 {
		t.Errorf("Area(0) is %d", a)
	}
	if l, gap := math.Float64bits(g.Length(0)), math.Float64bits(g.Gap(0)); l != 0x3ff279a74590331d || gap != 0x3ff6a09e667f3bcd {
		t.Errorf("Length(0) is %x, Gap(0) %x", l, gap)
	}
}
