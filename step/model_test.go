package step

import (
	"math"
	"math/big"
	"slices"

	"tarn/api"
	"tarn/cube"
	"tarn/grid"
)

// The model: the words of the chapter and of those it names, in another way, and whole: it leans on layers 6 and 9 for what
// a net is and on none between them and this one. Speeds and depths are floats, operation by operation; quanta are whole
// numbers of any size; each edge is asked who gives over it, and each cell what all its edges bring.

// modelSea: a sea and its plan over a net, with what its step finds out of them.
type modelSea struct {
	g *grid.Grid
	p api.Plan
	s api.Sea

	speeds        []float64
	wished        []int64
	water, tracer []int64 // flows
}

func modelOf(g *grid.Grid, p api.Plan, s api.Sea) *modelSea {
	m := &modelSea{g: g, p: p, s: s}
	for e := range g.Edges() {
		m.speeds = append(m.speeds, m.speed(e))
		m.wished = append(m.wished, m.wish(e))
	}
	for e := range g.Edges() {
		m.water = append(m.water, m.cut(e))
	}
	for e := range g.Edges() {
		m.tracer = append(m.tracer, m.taken(e))
	}
	return m
}

func (m *modelSea) depth(cell int) float64 {
	return float64(m.s.Water[cell]) / float64(m.g.Area(cell)) // of a sea that can be: +0 without water
}

func (m *modelSea) level(cell int) float64 { return m.s.Bed[cell] + m.depth(cell) }

func (m *modelSea) closed(e int) bool {
	x, _ := m.g.Edge(e)
	switch left, right := m.s.Water[x.Left] > 0, m.s.Water[x.Right] > 0; {
	case left && right:
		return false
	case left:
		return m.level(x.Left) <= m.s.Bed[x.Right]
	case right:
		return m.level(x.Right) <= m.s.Bed[x.Left]
	}
	return true
}

func (m *modelSea) speed(e int) float64 {
	x, _ := m.g.Edge(e)
	depth := 0.5 * (m.depth(x.Left) + m.depth(x.Right))
	if m.closed(e) || depth == 0 {
		return 0
	}
	pull := m.p.Gravity * m.p.Dt
	pull = pull * (m.level(x.Right) - m.level(x.Left))
	pull = pull / m.g.Gap(e)
	u := m.s.Speed[e] - pull
	drag := m.p.Drag * m.p.Dt
	drag = drag * math.Abs(u)
	drag = drag / depth
	u = u / (1 + drag)
	if u == 0 {
		return 0 // whatever its sign
	}
	return math.Max(-1024, math.Min(1024, u))
}

// modelSlope by the limiters' numbers.
func modelSlope(kind int, a, b float64) float64 {
	if a < 0 && b < 0 {
		return -modelSlope(kind, -a, -b)
	}
	if !(a > 0 && b > 0) {
		return 0
	}
	switch kind {
	case 1:
		return math.Min(a, b)
	case 2:
		return math.Max(math.Min(2*a, b), math.Min(a, 2*b))
	case 3:
		return 2 * a * b / (a + b)
	}
	return 0
}

// wish: how many quanta would go over an edge at its new speed.
func (m *modelSea) wish(e int) int64 {
	u := m.speeds[e]
	if u == 0 {
		return 0
	}
	x, _ := m.g.Edge(e)
	up, down, ahead := x.Left, x.Right, x.Side
	if u < 0 {
		up, down, ahead = x.Right, x.Left, x.Back
	}
	back, _ := cube.Beside(m.g.Side(), up, (ahead+2)%4)
	half := float64(0.5 * modelSlope(m.p.Limiter, m.depth(up)-m.depth(back), m.depth(down)-m.depth(up)))
	depth := math.Min(m.depth(up)+half, m.level(up)-math.Max(m.s.Bed[up], m.s.Bed[down]))
	if depth <= 0 {
		return 0
	}
	q := u
	for _, y := range []float64{depth, m.g.Length(e), m.p.Dt, 0x1p30} {
		q = q * y
	}
	return int64(math.RoundToEven(math.Max(-0x1p52, math.Min(0x1p52, q))))
}

// giver: the cell that gives over an edge, and the side over which it does.
func (m *modelSea) giver(e int) (int, int) {
	x, _ := m.g.Edge(e)
	if m.wished[e] > 0 {
		return x.Left, x.Side
	}
	return x.Right, x.Back
}

// out of a cell over a side, of flows that go the ways of the wishes.
func (m *modelSea) out(flows []int64, cell, side int) *big.Int {
	e, sign := m.g.Around(cell, side)
	if flows[e] > 0 == (sign > 0) {
		return new(big.Int).Abs(big.NewInt(flows[e]))
	}
	return new(big.Int)
}

func modelPart(x, y, z *big.Int) *big.Int {
	product := new(big.Int).Mul(x, y)
	return product.Div(product, z)
}

// signed: a size with the sign of a wish.
func (m *modelSea) signed(e int, size *big.Int) int64 {
	if m.wished[e] < 0 {
		return -size.Int64()
	}
	return size.Int64()
}

func (m *modelSea) cut(e int) int64 {
	if m.wished[e] == 0 {
		return 0
	}
	cell, side := m.giver(e)
	all, has := new(big.Int), big.NewInt(m.s.Water[cell])
	for over := range 4 {
		all.Add(all, m.out(m.wished, cell, over))
	}
	if all.Cmp(has) <= 0 {
		return m.wished[e]
	}
	return m.signed(e, modelPart(m.out(m.wished, cell, side), has, all))
}

func (m *modelSea) taken(e int) int64 {
	if m.water[e] == 0 {
		return 0
	}
	cell, side := m.giver(e)
	ahead, has, water := new(big.Int), big.NewInt(m.s.Tracer[cell]), big.NewInt(m.s.Water[cell])
	for over := range side {
		ahead.Add(ahead, m.out(m.water, cell, over))
	}
	first := modelPart(has, ahead, water)
	with := ahead.Add(ahead, m.out(m.water, cell, side))
	return m.signed(e, new(big.Int).Sub(modelPart(has, with, water), first))
}

// moved: what the cells have behind flows.
func (m *modelSea) moved(has, flows []int64) []int64 {
	out := slices.Clone(has)
	for cell := range out {
		for over := range 4 {
			e, sign := m.g.Around(cell, over)
			out[cell] -= int64(sign) * flows[e]
		}
	}
	return out
}

// next: the sea behind the step.
func (m *modelSea) next() api.Sea {
	out := api.Sea{
		Bed:    slices.Clone(m.s.Bed),
		Water:  m.moved(m.s.Water, m.water),
		Tracer: m.moved(m.s.Tracer, m.tracer),
		Speed:  slices.Clone(m.speeds),
		Sky:    m.s.Sky,
		Step:   m.s.Step,
	}
	if out.Step != 1<<62 {
		out.Step++
	}
	for _, r := range m.p.Rains {
		if m.s.Step < r.From || m.s.Step >= r.To {
			continue
		}
		down := min(r.Amount, out.Sky)
		down = max(down, -out.Water[r.Cell])
		out.Water[r.Cell] += down
		out.Sky -= down
	}
	if m.p.Rivers {
		m.run(out)
	}
	return out
}

// run the rivers: the cell whose turn it is is looked for anew each time.
func (m *modelSea) run(out api.Sea) {
	done := make([]bool, len(out.Bed))
	for range out.Bed {
		highest := -1
		for cell, bed := range out.Bed {
			if !done[cell] && (highest < 0 || bed > out.Bed[highest]) {
				highest = cell
			}
		}
		done[highest] = true
		m.runFrom(out, highest)
	}
}

func (m *modelSea) runFrom(out api.Sea, cell int) {
	down := cell
	for _, next := range m.beside(cell) {
		if out.Bed[next] < out.Bed[down] {
			down = next
		}
	}
	water := out.Water[cell]
	if down == cell || water < 4 || 2*water >= m.g.Area(cell) {
		return
	}
	part := modelPart(big.NewInt(out.Tracer[cell]), big.NewInt(water/4), big.NewInt(water)).Int64()
	out.Water[cell] -= water / 4
	out.Water[down] += water / 4
	out.Tracer[cell] -= part
	out.Tracer[down] += part
}

// beside: the four cells over the sides of a cell, the lesser numbers first.
func (m *modelSea) beside(cell int) []int {
	var out []int
	for over := range 4 {
		next, _ := cube.Beside(m.g.Side(), cell, over)
		out = append(out, next)
	}
	slices.Sort(out)
	return out
}

// atRest: DOC.md's words.
func (m *modelSea) atRest() bool {
	for e, u := range m.s.Speed {
		x, _ := m.g.Edge(e)
		if math.Float64bits(u) != 0 || !m.closed(e) && m.level(x.Left) != m.level(x.Right) {
			return false
		}
	}
	return true
}

// words: all that a sea is, as one list.
func words(s api.Sea) []uint64 {
	out := []uint64{uint64(len(s.Bed)), uint64(len(s.Water)), uint64(len(s.Tracer)), uint64(len(s.Speed)), uint64(s.Sky), uint64(s.Step)}
	for _, list := range [][]float64{s.Bed, s.Speed} {
		for _, x := range list {
			out = append(out, math.Float64bits(x))
		}
	}
	for _, list := range [][]int64{s.Water, s.Tracer} {
		for _, n := range list {
			out = append(out, uint64(n))
		}
	}
	return out
}

func same(a, b api.Sea) bool { return slices.Equal(words(a), words(b)) }

func sameFlow(a, b api.Flow) bool {
	return slices.Equal(a.Water, b.Water) && slices.Equal(a.Tracer, b.Tracer)
}
