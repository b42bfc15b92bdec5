package geom

import (
	"math"
	"testing"

	"tarn/api"
	"tarn/cube"
	"tarn/vec"
)

const greatest = 32 // side

func from(b uint64) float64 { return math.Float64frombits(b) }

func same(x, y float64) bool { return math.Float64bits(x) == math.Float64bits(y) }

func alike(a, b api.Vec) bool { return same(a.X, b.X) && same(a.Y, b.Y) && same(a.Z, b.Z) }

func within(k, from, to int) bool { return k >= from && k <= to }

// allSides of a net.
func allSides() []int {
	var out []int
	for side := 1; side <= greatest; side++ {
		out = append(out, side)
	}
	return out
}

// someSides: the ends, powers of two and others, even and odd.
func someSides() []int { return []int{1, 2, 3, 4, 5, 6, 7, 10, 13, 16, 31, 32} }

// wild: whole numbers that are nothing of a net; some make products and sums wrap round to small ones.
func wild() []int {
	return []int{math.MinInt, math.MinInt + 1, -1 << 62, -1 << 32, -1 << 31, -7000, -33, -6, -4, -2, -1,
		6144 + 1, 7000, 1<<31 - 1, 1 << 31, 1 << 32, 1<<32 + 1, 1 << 61, 1 << 62, 1<<62 + 1, math.MaxInt - 1, math.MaxInt}
}

// numbers: the wild ones, and all that are near to what may be there.
func numbers() []int {
	out := wild()
	for k := range 36 {
		out = append(out, k)
	}
	return append(out, 53, 54, 55, 5765, 5766, 5767, 6143, 6144)
}

// P8.1: all points of a net, its edges and corners too.
func TestPoints(t *testing.T) {
	for _, side := range someSides() {
		m := modelNet(side)
		for at, want := range m.corners {
			if v, ok := Corner(side, at[0], at[1], at[2]); !ok || !alike(v, want) {
				t.Errorf("Corner(%d, %v) is %v, %v, not %v", side, at, v, ok, want)
			}
		}
		for cell, want := range m.middles {
			if v, ok := Middle(side, cell); !ok || !alike(v, want) {
				t.Errorf("Middle(%d, %d) is %v, %v, not %v", side, cell, v, ok, want)
			}
		}
	}
}

// P8.1: all sizes of a net.
func TestSizes(t *testing.T) {
	for _, side := range someSides() {
		m := modelNet(side)
		for cell := range 6 * side * side {
			if a, want := Area(side, cell), m.area(cell); a != want {
				t.Errorf("Area(%d, %d) is %d, not %d", side, cell, a, want)
			}
			for over := range 4 {
				if l, want := Length(side, cell, over), m.length(cell, over); !same(l, want) {
					t.Errorf("Length(%d, %d, %d) is %x, not %x", side, cell, over, l, want)
				}
				if g, want := Gap(side, cell, over), m.gap(cell, over); !same(g, want) {
					t.Errorf("Gap(%d, %d, %d) is %x, not %x", side, cell, over, g, want)
				}
			}
		}
	}
}

// P8.1: corners that aren't there.
func TestNoSuchCorner(t *testing.T) {
	for _, side := range numbers() {
		for _, k := range numbers() {
			for _, c := range []struct {
				face, i, j int
				there      bool
			}{
				{k, 0, 0, within(k, 0, 5)}, {k, 1, 1, within(k, 0, 5)}, {0, k, 0, within(k, 0, side)}, {5, k, 1, within(k, 0, side)},
				{0, 0, k, within(k, 0, side)}, {5, 1, k, within(k, 0, side)}, {k, k, k, within(k, 0, min(side, 5))},
			} {
				v, ok := Corner(side, c.face, c.i, c.j)
				if ok != (within(side, 1, greatest) && c.there) {
					t.Errorf("Corner(%d, %d, %d, %d) answers %v", side, c.face, c.i, c.j, ok)
				}
				if !ok && !alike(v, api.Vec{}) {
					t.Errorf("Corner(%d, %d, %d, %d) is %v beside false", side, c.face, c.i, c.j, v)
				}
			}
		}
	}
}

// P8.1: cells that aren't there.
func TestNoSuchCell(t *testing.T) {
	for _, side := range numbers() {
		for _, cell := range append(numbers(), 6*side*side-1, 6*side*side) {
			there := within(side, 1, greatest) && within(cell, 0, 6*side*side-1)
			v, ok := Middle(side, cell)
			if ok != there {
				t.Errorf("Middle(%d, %d) answers %v", side, cell, ok)
			}
			if !ok && !alike(v, api.Vec{}) {
				t.Errorf("Middle(%d, %d) is %v beside false", side, cell, v)
			}
			if a := Area(side, cell); (a != 0) != there {
				t.Errorf("Area(%d, %d) is %d", side, cell, a)
			}
		}
	}
}

// P8.1: sides of cells that aren't there.
func TestNoSuchSide(t *testing.T) {
	for _, side := range numbers() {
		for _, cell := range append(numbers(), 6*side*side-1, 6*side*side) {
			for _, over := range append(wild(), 0, 1, 2, 3, 4, 5, 6, 7) {
				if within(side, 1, greatest) && within(cell, 0, 6*side*side-1) && within(over, 0, 3) {
					continue
				}
				if l := Length(side, cell, over); !same(l, 0) {
					t.Errorf("Length(%d, %d, %d) is %v", side, cell, over, l)
				}
				if g := Gap(side, cell, over); !same(g, 0) {
					t.Errorf("Gap(%d, %d, %d) is %v", side, cell, over, g)
				}
			}
		}
	}
}

// ends of a side of a cell, by Corner.
func ends(t *testing.T, side, cell, over int) (api.Vec, api.Vec) {
	face, i, j, _ := cube.Place(side, cell)
	at := [4][2]int{{1, 0}, {1, 1}, {0, 1}, {0, 0}}
	p, q := at[over], at[(over+1)%4]
	a, ok := Corner(side, face, i+p[0], j+p[1])
	b, good := Corner(side, face, i+q[0], j+q[1])
	if !ok || !good {
		t.Fatalf("side %d of cell %d of net %d has no corners", over, cell, side)
	}
	return a, b
}

// P8.2: what lies there is the same from both cells. Round a cell the sides go one way, so the ends come the other way round.
func TestBothSidesAgree(t *testing.T) {
	for _, side := range allSides() {
		for cell := range cube.Cells(side) {
			for over := range 4 {
				next, back := cube.Beside(side, cell, over)
				a, b := ends(t, side, cell, over)
				c, d := ends(t, side, next, back)
				if !alike(a, d) || !alike(b, c) {
					t.Errorf("side %d of cell %d of net %d goes from %v to %v, but from %v to %v", over, cell, side, a, b, d, c)
				}
				if l, other := Length(side, cell, over), Length(side, next, back); !same(l, other) {
					t.Errorf("Length(%d, %d, %d) is %x, from the other cell %x", side, cell, over, l, other)
				}
				if g, other := Gap(side, cell, over), Gap(side, next, back); !same(g, other) {
					t.Errorf("Gap(%d, %d, %d) is %x, from the other cell %x", side, cell, over, g, other)
				}
			}
		}
	}
}

// sizes of a cell.
type sizes struct {
	area          int64
	lengths, gaps [4]float64
}

func allSizes(side int) []sizes {
	out := make([]sizes, cube.Cells(side))
	for cell := range out {
		out[cell].area = Area(side, cell)
		for over := range 4 {
			out[cell].lengths[over], out[cell].gaps[over] = Length(side, cell, over), Gap(side, cell, over)
		}
	}
	return out
}

// P8.3: by every turn.
func TestFacesAreAlike(t *testing.T) {
	for _, side := range allSides() {
		all := allSizes(side)
		for turn := range 24 {
			for cell, have := range all {
				to, q := cube.Turn(side, turn, cell)
				if all[to].area != have.area {
					t.Errorf("Area(%d, %d) is %d, behind turn %d it is %d", side, cell, have.area, turn, all[to].area)
				}
				for over := range 4 {
					as := (over + q) % 4
					if !same(all[to].lengths[as], have.lengths[over]) || !same(all[to].gaps[as], have.gaps[over]) {
						t.Errorf("side %d of cell %d of net %d is another one behind turn %d", over, cell, side, turn)
					}
				}
			}
		}
	}
}

// P8.4: sizes.
func TestBoundsOfSizes(t *testing.T) {
	for _, side := range allSides() {
		for cell, have := range allSizes(side) {
			if have.area < 1 || have.area > 2<<30 {
				t.Errorf("Area(%d, %d) is %d", side, cell, have.area)
			}
			for over := range 4 {
				if l := have.lengths[over]; !(l > 0 && l <= 2) {
					t.Errorf("Length(%d, %d, %d) is %v", side, cell, over, l)
				}
				if g := have.gaps[over]; !(g > 0 && g <= 2) {
					t.Errorf("Gap(%d, %d, %d) is %v", side, cell, over, g)
				}
			}
		}
	}
}

// P8.4: points.
func TestPointsLieOnTheSphere(t *testing.T) {
	on := func(v api.Vec, ok bool) bool { return ok && math.Abs(vec.Length(v)-1) <= 0x1p-50 }
	for _, side := range allSides() {
		for cell := range cube.Cells(side) {
			if v, ok := Middle(side, cell); !on(v, ok) {
				t.Errorf("Middle(%d, %d) is %v, %v", side, cell, v, ok)
			}
		}
		for face := range 6 {
			for i := range side + 1 {
				for j := range side + 1 {
					if v, ok := Corner(side, face, i, j); !on(v, ok) {
						t.Errorf("Corner(%d, %d, %d, %d) is %v, %v", side, face, i, j, v, ok)
					}
				}
			}
		}
	}
}

// All areas together are nearly the sphere's own: flat cells have somewhat less, and the less the smaller they are.
func TestAreasMakeUpTheSphere(t *testing.T) {
	lack := 2.0
	for _, side := range []int{1, 2, 4, 8, 16, 32} {
		whole := 0.0
		for _, have := range allSizes(side) {
			whole += float64(have.area)
		}
		now := 1 - whole/(1<<30)/(4*math.Pi)
		if now < 0 || now > lack/2 {
			t.Errorf("the areas of side %d lack %v, those ahead of it %v", side, now, lack)
		}
		lack = now
	}
}

// The chapter's examples.
func TestExamplesOfPoints(t *testing.T) {
	third := from(0x3fe279a74590331d)
	big, small := from(0x3fea20bd700c2c3f), from(0xbfda20bd700c2c3f)
	for _, e := range []struct {
		at   [4]int
		want api.Vec
		ok   bool
	}{
		{[4]int{2, 0, 1, 1}, api.Vec{X: 1}, true},
		{[4]int{2, 0, 2, 2}, api.Vec{X: third, Y: third, Z: third}, true},
		{[4]int{2, 1, 0, 2}, api.Vec{X: third, Y: third, Z: third}, true},
		{[4]int{2, 4, 2, 0}, api.Vec{X: third, Y: third, Z: third}, true},
		{[4]int{2, 0, 3, 0}, api.Vec{}, false},
		{[4]int{0, 0, 0, 0}, api.Vec{}, false},
		{[4]int{33, 0, 0, 0}, api.Vec{}, false},
	} {
		if v, ok := Corner(e.at[0], e.at[1], e.at[2], e.at[3]); ok != e.ok || !alike(v, e.want) {
			t.Errorf("Corner(%v) is %v, %v", e.at, v, ok)
		}
	}
	if v, ok := Middle(2, 0); !ok || !alike(v, api.Vec{X: big, Y: small, Z: small}) {
		t.Errorf("Middle(2, 0) is %v, %v", v, ok)
	}
	if v, ok := Middle(1, 0); !ok || !alike(v, api.Vec{X: 1}) {
		t.Errorf("Middle(1, 0) is %v, %v", v, ok)
	}
}

func TestExamplesOfSizes(t *testing.T) {
	for _, e := range [][3]int{{1, 0, 1431655765}, {2, 7, 493600022}, {4, 0, 85593799}, {4, 5, 205701258},
		{32, 0, 859517}, {32, 528, 4173933}, {2, 24, 0}} {
		if a := Area(e[0], e[1]); a != int64(e[2]) {
			t.Errorf("Area(%d, %d) is %d, not %d", e[0], e[1], a, e[2])
		}
	}
	if l := Length(1, 0, 0); !same(l, from(0x3ff279a74590331d)) {
		t.Errorf("Length(1, 0, 0) is %x", l)
	}
	if g := Gap(1, 0, 0); !same(g, from(0x3ff6a09e667f3bcd)) {
		t.Errorf("Gap(1, 0, 0) is %x", g)
	}
	if l := Length(1, 0, 4); !same(l, 0) {
		t.Errorf("Length(1, 0, 4) is %x", l)
	}
}
