package vec

import (
	"math"
	"testing"

	"tarn/api"
)

const (
	quietBits = 0x7ff8000000000001
	least     = 5e-324
	most      = math.MaxFloat64
)

func inf() float64 { return math.Inf(1) }

func minusNought() float64 { return math.Copysign(0, -1) }

func quiet() float64 { return math.Float64frombits(quietBits) }

func above(x float64) float64 { return math.Nextafter(x, inf()) }

func below(x float64) float64 { return math.Nextafter(x, -inf()) }

func at(x, y, z float64) api.Vec { return api.Vec{X: x, Y: y, Z: z} }

func parts(a api.Vec) [3]float64 { return [3]float64{a.X, a.Y, a.Z} }

// nans: with and without the sign bit, quiet and signalling.
func nans() []float64 {
	var out []float64
	for _, m := range []uint64{0x7ff0000000000001, 0x7ff8000000000000, quietBits, 0x7fffffffffffffff} {
		out = append(out, math.Float64frombits(m), math.Float64frombits(m|1<<63))
	}
	return out
}

// small: about the roots of the least square that isn't 0 and of the least normal one, and less.
func small() []float64 {
	l := math.Sqrt(0x1p-1074) * math.Sqrt(0.5)
	return []float64{least, 0x1p-1022, 0x1p-600, 0x1p-538, 0x1p-537, below(l), l, above(l), 0x1p-530, below(0x1p-511), 0x1p-511, above(0x1p-511)}
}

// great: about the root of the greatest square, and more.
func great() []float64 {
	return []float64{0x1p511, below(0x1p512), 0x1p512, 0x1p600, 0x1p1023, most}
}

// edges: of both signs, with NaNs.
func edges() []float64 {
	out := []float64{0, minusNought(), inf(), -inf()}
	for _, x := range append(append([]float64{1, 3, 0.1, 1 + 0x1p-52, 1 - 0x1p-53, 0x1p53 - 1}, small()...), great()...) {
		out = append(out, x, -x)
	}
	return append(out, nans()...)
}

// scattered: bit patterns by a fixed rule.
func scattered(n int) []uint64 {
	out := make([]uint64, n)
	s := uint64(1122334455)
	for i := range out {
		s = s*6364136223846793005 + 1442695040888963407
		out[i] = s ^ s>>29
	}
	return out
}

// near: a float of either sign from 2^-span on up to 2^span, by scattered bits.
func near(b uint64, span uint64) float64 {
	return math.Ldexp(math.Float64frombits(b&^(0x7ff<<52)|1023<<52), int(b>>20%(2*span))-int(span))
}

// vectors: of scattered edges, of all bits, and of floats near one another.
func vectors(n int) []api.Vec {
	var out []api.Vec
	e := edges()
	b := scattered(3 * n)
	for k := range n {
		u, v, w := b[3*k], b[3*k+1], b[3*k+2]
		size := uint64(len(e))
		out = append(out, at(e[u>>8%size], e[v>>8%size], e[w>>8%size]))
		out = append(out, at(math.Float64frombits(u), math.Float64frombits(v), math.Float64frombits(w)))
		out = append(out, at(near(u, 2), near(v, 2), near(w, 2)), at(near(u, 40), near(v, 40), near(w, 40)))
		out = append(out, at(near(u, 600), near(v, 600), near(w, 600)))
	}
	return out
}

// noNaNs: vectors of edges whose NaNs were taken out, so that few answers are NaNs.
func noNaNs(n int) []api.Vec {
	var out []api.Vec
	for _, a := range vectors(n) {
		if a.X == a.X && a.Y == a.Y && a.Z == a.Z {
			out = append(out, a)
		}
	}
	return out
}

// lines: each edge on each axis, with noughts of both signs beside it.
func lines() []api.Vec {
	var out []api.Vec
	for _, x := range edges() {
		for _, o := range []float64{0, minusNought()} {
			out = append(out, at(x, o, 0), at(0, x, o), at(o, 0, x))
		}
	}
	return out
}

// many: lines and vectors.
func many() []api.Vec { return append(lines(), vectors(300)...) }

// pairs: of each vector with one nearby in the list, and with itself.
func pairs() [][2]api.Vec {
	var out [][2]api.Vec
	for _, list := range [][]api.Vec{many(), noNaNs(1000)} {
		for k, a := range list {
			out = append(out, [2]api.Vec{a, list[(k+1)%len(list)]}, [2]api.Vec{a, list[(k+5)%len(list)]}, [2]api.Vec{a, a})
		}
	}
	return out
}

func sameBits(x, y float64) bool { return math.Float64bits(x) == math.Float64bits(y) }

func same(t *testing.T, what string, have, want float64) {
	t.Helper()
	if !sameBits(have, want) {
		t.Errorf("%s is %v (%x), want %v (%x)", what, have, math.Float64bits(have), want, math.Float64bits(want))
	}
}

func alike(t *testing.T, what string, have, want api.Vec) {
	t.Helper()
	h, w := parts(have), parts(want)
	for k := range h {
		if !sameBits(h[k], w[k]) {
			t.Errorf("%s is %v, want %v: part %d is %x, want %x", what, have, want, k, math.Float64bits(h[k]), math.Float64bits(w[k]))
		}
	}
}

// kept: of the form in which floats are answered.
func kept(a api.Vec) api.Vec {
	p := parts(a)
	for k, x := range p {
		p[k] = keptFloat(x)
	}
	return at(p[0], p[1], p[2])
}

func keptFloat(x float64) float64 {
	if x != x {
		return quiet()
	}
	if x == 0 {
		return 0
	}
	return x
}

// opposite: of a float or vector that was answered.
func opposite(a api.Vec) api.Vec { return kept(at(-a.X, -a.Y, -a.Z)) }

// P7.1: the chapter's examples.
func TestExamples(t *testing.T) {
	same(t, "Length(3, 4, 0)", Length(at(3, 4, 0)), 5)
	same(t, "Length(0, -0, 0)", Length(at(0, minusNought(), 0)), 0)
	same(t, "Length(2^600, 0, 0)", Length(at(0x1p600, 0, 0)), inf())
	same(t, "Length(2^-600, 0, 0)", Length(at(0x1p-600, 0, 0)), 0)
	same(t, "Length(NaN, 1, 1)", Length(at(math.NaN(), 1, 1)), quiet())
	same(t, "Length(1, 1, 1)", Length(at(1, 1, 1)), math.Float64frombits(0x3ffbb67ae8584caa))
	alike(t, "Unit(0, 0, 5)", Unit(at(0, 0, 5)), at(0, 0, 1))
	alike(t, "Unit(-2, 0, 0)", Unit(at(-2, 0, 0)), at(-1, 0, 0))
	alike(t, "Unit(-2, -0, 0)", Unit(at(-2, minusNought(), 0)), at(-1, 0, 0))
	alike(t, "Unit(0, 0, 0)", Unit(at(0, 0, 0)), at(0, 0, 0))
	alike(t, "Unit(infinity, 0, 0)", Unit(at(inf(), 0, 0)), at(0, 0, 0))
	alike(t, "Cross((1, 0, 0), (0, 1, 0))", Cross(at(1, 0, 0), at(0, 1, 0)), at(0, 0, 1))
	alike(t, "Minus((1, 2, 3), (1, 2, 3))", Minus(at(1, 2, 3), at(1, 2, 3)), at(0, 0, 0))
	same(t, "Gap((1, 2, 3), (1, 2, 5))", Gap(at(1, 2, 3), at(1, 2, 5)), 2)
}

// P7.1, P2: every answer is the model's.
func TestOfOne(t *testing.T) {
	for _, list := range [][]api.Vec{many(), noNaNs(2000)} {
		for _, a := range list {
			same(t, "Length", Length(a), keptFloat(modelLength(a)))
			alike(t, "Unit", Unit(a), kept(modelUnit(a)))
		}
	}
}

func TestOfTwo(t *testing.T) {
	for _, p := range pairs() {
		a, b := p[0], p[1]
		alike(t, "Minus", Minus(a, b), kept(modelMinus(a, b)))
		alike(t, "Cross", Cross(a, b), kept(modelCross(a, b)))
		same(t, "Gap", Gap(a, b), keptFloat(modelLength(modelMinus(a, b))))
	}
}

// P7.1: every pair of edges meets in every part of a difference and of a cross product.
func TestEdgesMeet(t *testing.T) {
	for _, x := range edges() {
		for _, y := range edges() {
			a, b := at(x, y, 1), at(y, -x, 3)
			alike(t, "Minus", Minus(a, b), kept(modelMinus(a, b)))
			alike(t, "Cross", Cross(a, b), kept(modelCross(a, b)))
			for _, v := range []api.Vec{at(x, y, 0), at(y, 1, x), at(x, x, y)} {
				same(t, "Length", Length(v), keptFloat(modelLength(v)))
				alike(t, "Unit", Unit(v), kept(modelUnit(v)))
			}
		}
	}
}

// P7.1: the products of a cross product, and the squares of a length, are each rounded by themselves.
func TestProductsAreRounded(t *testing.T) {
	u, d := 1+0x1p-52, 1-0x1p-53
	alike(t, "Cross", Cross(at(0, u, 1), at(0, 1, d)), at(float64(u*d)-1, 0, 0))
	x := 1 + 0x1p-30
	alike(t, "Cross of a vector with itself", Cross(at(x, u, d), at(x, u, d)), at(0, 0, 0))
	alike(t, "Cross, a lost square", Cross(at(x, 1+0x1p-29, 0), at(1, x, 0)), at(0, 0, 0))
	alike(t, "Cross, the lost square first", Cross(at(1, x, 0), at(x, 1+0x1p-29, 0)), at(0, 0, 0))
	s := 0x1p-27 + 0x1p-53
	same(t, "Length, a rounded square", Length(at(1, s, 0)), math.Sqrt(1+float64(s*s)))
}

// P7.1: a Unit where the length is nothing, too great or no number, and about the ends of that.
func TestUnitOfNothing(t *testing.T) {
	for _, x := range []float64{0x1p-600, least, 0, 0x1p512, most, inf()} {
		for _, v := range []api.Vec{at(x, 0, 0), at(0, -x, 0), at(minusNought(), 0, x), at(-x, x, x)} {
			alike(t, "Unit", Unit(v), at(0, 0, 0))
		}
	}
	for _, x := range nans() {
		for _, v := range []api.Vec{at(x, 1, 1), at(1, x, inf()), at(0, 0, x)} {
			alike(t, "Unit", Unit(v), at(0, 0, 0))
		}
	}
	alike(t, "Unit, whose sum of squares is too great", Unit(at(below(0x1p512), below(0x1p512), 0)), at(0, 0, 0))
	alike(t, "Unit just in the range", Unit(at(0, -below(0x1p512), 0)), at(0, -1, 0))
	alike(t, "Unit of a lost part", Unit(at(1, -least, 0)), at(1, -least, 0))
	alike(t, "Unit of a part that is lost", Unit(at(4, -least, 0)), at(1, 0, 0))
	alike(t, "Unit of subnormal squares", Unit(at(0x1p-537, 0, 0)), at(1, 0, 0))
}

// P7.1: NaNs of every form come out as the one.
func TestNaNs(t *testing.T) {
	q := quiet()
	for _, x := range nans() {
		alike(t, "Minus", Minus(at(x, 1, 2), at(1, 1, x)), at(q, 0, q))
		alike(t, "Cross", Cross(at(x, 0, 0), at(0, 1, 0)), at(0, q, q))
		same(t, "Length", Length(at(inf(), 0, x)), q)
		same(t, "Gap", Gap(at(0, x, 0), at(0, 0, 0)), q)
	}
	alike(t, "Minus of infinities", Minus(at(inf(), inf(), -inf()), at(inf(), -inf(), -inf())), at(q, inf(), q))
	alike(t, "Cross of an infinity and a nought", Cross(at(inf(), 0, 0), at(0, 1, 0)), at(0, q, inf()))
	same(t, "Gap of equal infinities", Gap(at(inf(), 0, 0), at(inf(), 0, 0)), q)
	same(t, "Gap of opposite infinities", Gap(at(inf(), 0, 0), at(-inf(), 0, 0)), inf())
}

// changes: all ways in which the axes can be changed about, and whether each is odd.
func changes() map[[3]int]bool {
	return map[[3]int]bool{
		{0, 1, 2}: false, {1, 2, 0}: false, {2, 0, 1}: false,
		{1, 0, 2}: true, {0, 2, 1}: true, {2, 1, 0}: true,
	}
}

// changed: the axes of a changed about.
func changed(a api.Vec, way [3]int) api.Vec {
	p := parts(a)
	return at(p[way[0]], p[way[1]], p[way[2]])
}

// P7.2: the axes are changed about.
func TestAxesChanged(t *testing.T) {
	for way, odd := range changes() {
		for _, p := range pairs() {
			a, b := p[0], p[1]
			c, d := changed(a, way), changed(b, way)
			alike(t, "Minus changed about", Minus(c, d), changed(Minus(a, b), way))
			alike(t, "Unit changed about", Unit(c), changed(Unit(a), way))
			same(t, "Length changed about", Length(c), Length(a))
			same(t, "Gap changed about", Gap(c, d), Gap(a, b))
			want := changed(Cross(a, b), way)
			if odd {
				want = opposite(want)
			}
			alike(t, "Cross changed about", Cross(c, d), want)
		}
	}
}

// P7.2: an axis is turned round.
func TestAxesTurned(t *testing.T) {
	for _, s := range [][3]float64{{-1, 1, 1}, {1, -1, 1}, {1, 1, -1}, {-1, -1, -1}} {
		for _, p := range pairs() {
			a, b := p[0], p[1]
			c, d := turned(a, s), turned(b, s)
			same(t, "Length turned round", Length(c), Length(a))
			same(t, "Gap turned round", Gap(c, d), Gap(a, b))
		}
	}
}

// turned: the signs of some axes changed, those of NaNs too.
func turned(a api.Vec, signs [3]float64) api.Vec {
	p := parts(a)
	for k, s := range signs {
		if s < 0 {
			p[k] = math.Float64frombits(math.Float64bits(p[k]) ^ 1<<63)
		}
	}
	return at(p[0], p[1], p[2])
}

// P7.3: arguments exchanged.
func TestExchanged(t *testing.T) {
	for _, p := range pairs() {
		a, b := p[0], p[1]
		alike(t, "Minus exchanged", Minus(b, a), opposite(Minus(a, b)))
		alike(t, "Cross exchanged", Cross(b, a), opposite(Cross(a, b)))
		same(t, "Gap exchanged", Gap(b, a), Gap(a, b))
	}
	for _, a := range []api.Vec{at(1, 2, 3), at(0.1, -0.7, 1e300), at(minusNought(), 0, least), at(most, -most, 1)} {
		alike(t, "Minus of equal vectors", Minus(a, a), at(0, 0, 0))
		same(t, "Gap of equal vectors", Gap(a, a), 0)
	}
	alike(t, "Cross of equal vectors", Cross(at(1, 2, 3), at(1, 2, 3)), at(0, 0, 0))
}

// P7.4: where Length is +0.
func TestWhereLengthIsNought(t *testing.T) {
	for _, list := range [][]api.Vec{many(), noNaNs(2000)} {
		for _, a := range list {
			nought := true
			for _, x := range parts(a) {
				nought = nought && times(x, x) == 0
			}
			if l := Length(a); sameBits(l, 0) != nought {
				t.Errorf("Length(%v) is %v; all squares are 0: %v", a, l, nought)
			}
		}
	}
	l := math.Sqrt(0x1p-1074) * math.Sqrt(0.5)
	for float64(l*l) > 0 {
		l = below(l)
	}
	same(t, "Length of the greatest whose square is 0", Length(at(l, -l, l)), 0)
	if Length(at(0, above(l), 0)) == 0 {
		t.Errorf("Length is 0 of the least whose square isn't")
	}
}

// level: whether the square is 0 of a nought, or normal.
func level(x float64) bool {
	s := times(x, x)
	return x == 0 || s >= 0x1p-1022 && finite(s)
}

// P7.4: Length is at least the greatest magnitude, and of a vector with two noughts just that.
func TestLengthAgainstParts(t *testing.T) {
	seen := 0
	for _, a := range noNaNs(20000) {
		p := parts(a)
		if !level(a.X) || !level(a.Y) || !level(a.Z) {
			continue
		}
		seen++
		for _, x := range p {
			if l := Length(a); !(l >= math.Abs(x)) {
				t.Errorf("Length(%v) is %v, below %v", a, l, x)
			}
		}
	}
	if seen < 1000 {
		t.Errorf("only %d vectors", seen)
	}
	for _, x := range append(edges(), scatteredNear(20000)...) {
		if !level(x) {
			continue
		}
		for _, v := range []api.Vec{at(x, 0, minusNought()), at(0, x, 0), at(minusNought(), 0, x)} {
			same(t, "Length of a vector with two noughts", Length(v), math.Abs(x))
		}
	}
}

func scatteredNear(n int) []float64 {
	var out []float64
	for _, b := range scattered(n) {
		out = append(out, near(b, 1), near(b, 510))
	}
	return out
}
