package twin

import (
	"math"
	"math/big"
	"testing"
)

const (
	quietBits = 0x7ff8000000000001
	least     = 5e-324
	most      = math.MaxFloat64
	lastBit   = 0x1p971 // of most
)

func inf() float64 { return math.Inf(1) }

func minusNought() float64 { return math.Copysign(0, -1) }

func quiet() float64 { return math.Float64frombits(quietBits) }

func above(x float64) float64 { return math.Nextafter(x, inf()) }

func below(x float64) float64 { return math.Nextafter(x, -inf()) }

// nans: with and without the sign bit, quiet and signalling.
func nans() []float64 {
	var out []float64
	for _, m := range []uint64{0x7ff0000000000001, 0x7ff8000000000000, quietBits, 0x7fffffffffffffff} {
		out = append(out, math.Float64frombits(m), math.Float64frombits(m|1<<63))
	}
	return out
}

// around: each with the two floats beside it, and the opposites.
func around(xs ...float64) []float64 {
	var out []float64
	for _, x := range xs {
		for _, y := range []float64{x, above(x), below(x)} {
			out = append(out, y, -y)
		}
	}
	return out
}

// edges: what lies about the chapter's bounds and the ends of the floats.
func edges() []float64 {
	out := []float64{0, minusNought(), inf(), -inf(), most, -most, below(most), -below(most)}
	out = append(out, nans()...)
	out = append(out, around(1, 1.5, 0.1, 3, 10, 1e16, 134217729, 0x1p27, 0x1p26, 1-0x1p-27, 1+0x1p-26)...)
	out = append(out, around(least, 0x1p-1022, 0x1p-1021, 0x1p-1000, 0x1p-996, 0x1p-969, 0x1p-970, 0x1p-968, 0x1p-916, 0x1p-600)...)
	out = append(out, around(0x1p-53, 0x1p-54, 0x1p-52, 0x1p-60, 0x1p-485, 0x1p-484)...)
	out = append(out, around(lastBit, 0.5*lastBit, 0.25*lastBit, 1.5*lastBit, 2*lastBit, 3*lastBit, 0.75*lastBit)...)
	out = append(out, around(0x1p996, 0x1p997, 0x1p995, 0x1p1020, 0x1p1019, 0x1p1021, 0x1p1023, 0x1p510, 0x1p511, 0x1p500, 0x1p600)...)
	return append(out, 0x1p520-0x1p467, 0x1p503-0x1p450)
}

// scattered: bit patterns by a fixed rule.
func scattered(n int) []uint64 {
	out := make([]uint64, n)
	s := uint64(123456789)
	for i := range out {
		s = s*6364136223846793005 + 1442695040888963407
		out[i] = s ^ s>>29
	}
	return out
}

// significand: a float from 1 up to 2, of either sign, by scattered bits.
func significand(b uint64) float64 {
	return math.Float64frombits(b&^(0x7ff<<52) | 1023<<52)
}

type pair struct{ a, b float64 }

// pairs: all of two edges, and scattered ones: any bits, and sizes so near that much is cancelled or rounded.
func pairs() []pair {
	var out []pair
	es := edges()
	for _, a := range es {
		for _, b := range es {
			out = append(out, pair{a, b})
		}
	}
	bs := scattered(8000)
	for i := 0; i < len(bs); i += 2 {
		x, y := significand(bs[i]), significand(bs[i+1])
		at := i%2045 - 1022
		out = append(out, pair{math.Float64frombits(bs[i]), math.Float64frombits(bs[i+1])}, pair{x, math.Ldexp(y, i%130-65)})
		out = append(out, pair{math.Ldexp(x, at), math.Ldexp(y, at+i%110-55)}, pair{x, below(-x)}, pair{math.Ldexp(x, 1023), math.Ldexp(y, 1023-i%60)})
		out = append(out, pair{math.Ldexp(x, -1050+i%60), math.Ldexp(y, -1050+i%70)})
	}
	return out
}

// factors: pairs whose product lies about 2^-969 or 2^1020, or of which one factor lies about 2^996.
func factors() []pair {
	var out []pair
	bs := scattered(9000)
	for i := 0; i < len(bs); i += 2 {
		x, y := significand(bs[i]), significand(bs[i+1])
		at := i%1900 - 950
		low, high := -971+i/2%4-at, 1018+i/2%4-at
		out = append(out, pair{math.Ldexp(x, at), math.Ldexp(y, low)})
		if at >= 25 {
			out = append(out, pair{math.Ldexp(x, at), math.Ldexp(y, high)})
		}
		out = append(out, pair{math.Ldexp(x, 995+i/2%3), math.Ldexp(y, -i%1060)}, pair{math.Ldexp(x, -1074+i%70), math.Ldexp(y, 40+i%100)})
	}
	for e := -1074; e < 1024; e++ {
		p := math.Ldexp(1, e)
		for _, end := range []float64{0x1p-969, 0x1p1020} {
			q := end / p
			out = append(out, pair{p, q}, pair{above(p), q}, pair{below(p), q}, pair{above(p), below(q)}, pair{below(p), below(q)}, pair{above(p), above(q)}, pair{-p, above(q)}, pair{3 * p, q / 3})
		}
	}
	return out
}

// number: room for so many bits that no sum, difference or product of floats is rounded.
func number() *big.Float {
	return new(big.Float).SetPrec(4400)
}

// exact: a finite float as such a number.
func exact(x float64) *big.Float {
	return number().SetFloat64(x)
}

// rounded: the nearest float, of two the even one, with +0 of a nought.
func rounded(r *big.Float) float64 {
	x, _ := r.Float64()
	return canon(x)
}

func finiteBits(x float64) bool { return math.Float64bits(x)>>52&0x7ff != 0x7ff }

func canon(x float64) float64 {
	if x != x {
		return quiet()
	}
	return x + 0 // -0 + +0 is +0
}

func same(a, b float64) bool { return math.Float64bits(a) == math.Float64bits(b) }

// lost: what a float lacks of an exact number; it must be a float itself.
func lost(t *testing.T, whole *big.Float, x float64) float64 {
	t.Helper()
	e, how := number().Sub(whole, exact(x)).Float64()
	if how != big.Exact {
		t.Fatalf("what %v lacks is no float", x)
	}
	return canon(e)
}

// sumWanted: the sum as the chapter says it, by exact numbers.
func sumWanted(t *testing.T, a, b float64) (float64, float64) {
	t.Helper()
	if !finiteBits(a) || !finiteBits(b) {
		return canon(a + b), 0
	}
	whole := number().Add(exact(a), exact(b))
	s := rounded(whole)
	if !finiteBits(s) {
		return s, 0
	}
	return s, lost(t, whole, s)
}

func checkPair(t *testing.T, name string, args []float64, x, y, wantX, wantY float64) {
	t.Helper()
	if !same(x, wantX) || !same(y, wantY) {
		t.Errorf("%s%v is %v, %v (%x, %x), want %v, %v", name, args, x, y, math.Float64bits(x), math.Float64bits(y), wantX, wantY)
	}
}

// P3.1: the examples, and the ends.
func TestSumExamples(t *testing.T) {
	rows := [][4]float64{
		{0.1, 0.2, 0.30000000000000004, -2.7755575615628914e-17}, {1, 0x1p-53, 1, 0x1p-53}, {1, -0x1p-54, 1, -0x1p-54}, {1e16, 1, 1e16, 1}, {1, 2, 3, 0},
		{1, -1, 0, 0}, {minusNought(), minusNought(), 0, 0}, {minusNought(), 0, 0, 0}, {1, least, 1, least}, {least, least, 2 * least, 0}, {least, -least, 0, 0},
		{most, -1.5 * lastBit, most - lastBit, -0.5 * lastBit}, {-most, 1.5 * lastBit, lastBit - most, 0.5 * lastBit}, {most, most, inf(), 0}, {-most, -most, -inf(), 0}, {most, -most, 0, 0},
		{inf(), -inf(), quiet(), 0}, {inf(), inf(), inf(), 0}, {-inf(), 5, -inf(), 0}, {math.NaN(), 1, quiet(), 0}, {-math.NaN(), inf(), quiet(), 0},
		{most, 0.5 * lastBit, inf(), 0}, {most, 0.25 * lastBit, most, 0.25 * lastBit}, {most, below(0.5 * lastBit), most, below(0.5 * lastBit)}, {-most, -0.5 * lastBit, -inf(), 0},
		{most, least, most, least}, {most, -least, most, -least}, {1, 0, 1, 0}, {0, minusNought(), 0, 0}, {0x1p-1022, -least, 0x1p-1022 - least, 0},
	}
	for _, r := range rows {
		s, e := Sum(r[0], r[1])
		checkPair(t, "Sum", r[:2], s, e, r[2], r[3])
	}
}

// P3.1: against exact numbers.
func TestSumExact(t *testing.T) {
	for _, p := range pairs() {
		s, e := Sum(p.a, p.b)
		wantS, wantE := sumWanted(t, p.a, p.b)
		checkPair(t, "Sum", []float64{p.a, p.b}, s, e, wantS, wantE)
	}
}

// P3.1: what was taken away is at most half of the greater step beside the sum.
func TestSumBound(t *testing.T) {
	for _, p := range pairs() {
		s, e := Sum(p.a, p.b)
		if !finiteBits(s) {
			continue
		}
		m := math.Abs(s)
		step := exact(lastBit) // behind most the step would go on with that of its binade
		if m < most {
			step = number().Sub(exact(above(m)), exact(m))
		}
		half := number().Mul(step, exact(0.5))
		if exact(math.Abs(e)).Cmp(half) > 0 {
			t.Errorf("Sum(%v, %v) is %v, %v: more than half a step is lost", p.a, p.b, s, e)
		}
	}
}

// splitWanted: the chapter's four operations, each rounded by itself, by exact numbers.
func splitWanted(x float64) (float64, float64) {
	if x != x || math.Abs(x) > 0x1p996 {
		return canon(x), 0
	}
	less := func(a, b float64) float64 { return rounded(number().Sub(exact(a), exact(b))) }
	c := rounded(number().Mul(exact(134217729), exact(x)))
	h := less(c, less(c, x))
	return h, less(x, h)
}

// inUse: how many bits of a float lie from the highest to the lowest one that isn't 0.
func inUse(x float64) int {
	return int(exact(x).MinPrec())
}

// splitSamples: the edges, and every power of 2 with scattered bits behind it.
func splitSamples() []float64 {
	out := edges()
	bs := scattered(3 * 2098)
	for i, b := range bs {
		e := i%2098 - 1074
		out = append(out, math.Ldexp(significand(b), e))
		if i < 2098 {
			out = append(out, around(math.Ldexp(1, e))...)
		}
	}
	return out
}

// P3.2
func TestSplitExamples(t *testing.T) {
	rows := [][3]float64{
		{0.1, 0.09999999962747097, 3.7252903539730653e-10}, {-0.1, -0.09999999962747097, -3.7252903539730653e-10}, {1 + 0x1p-52, 1, 0x1p-52}, {134217729, 134217728, 1},
		{least, least, 0}, {-least, -least, 0}, {0x1p996, 0x1p996, 0}, {-0x1p996, -0x1p996, 0}, {0x1p997, 0x1p997, 0}, {0, 0, 0}, {minusNought(), 0, 0}, {1, 1, 0},
		{above(0x1p996), above(0x1p996), 0}, {below(-0x1p996), below(-0x1p996), 0}, {below(0x1p996), 0x1p996, -0x1p943}, {above(-0x1p996), -0x1p996, 0x1p943},
		{most, most, 0}, {-most, -most, 0}, {inf(), inf(), 0}, {-inf(), -inf(), 0},
	}
	for _, r := range rows {
		h, l := Split(r[0])
		checkPair(t, "Split", r[:1], h, l, r[1], r[2])
	}
	for _, x := range nans() {
		h, l := Split(x)
		checkPair(t, "Split", []float64{x}, h, l, quiet(), 0)
	}
}

// P3.2: against exact numbers.
func TestSplitExact(t *testing.T) {
	for _, x := range splitSamples() {
		h, l := Split(x)
		wantH, wantL := splitWanted(x)
		checkPair(t, "Split", []float64{x}, h, l, wantH, wantL)
		if x != x || math.Abs(x) > 0x1p996 {
			continue
		}
		if number().Add(exact(h), exact(l)).Cmp(exact(x)) != 0 {
			t.Errorf("Split(%v) is %v, %v: not x again", x, h, l)
		}
		if inUse(h) > 26 || inUse(l) > 26 {
			t.Errorf("Split(%v) is %v, %v: %d and %d bits in use", x, h, l, inUse(h), inUse(l))
		}
	}
}

// productWanted: the product as the chapter says it, by exact numbers.
func productWanted(t *testing.T, a, b float64) (float64, float64) {
	t.Helper()
	if !finiteBits(a) || !finiteBits(b) {
		return canon(a * b), 0
	}
	whole := number().Mul(exact(a), exact(b))
	p := rounded(whole)
	m := math.Abs(p)
	if math.Abs(a) > 0x1p996 || math.Abs(b) > 0x1p996 || m < 0x1p-969 || m > 0x1p1020 {
		return p, 0
	}
	return p, lost(t, whole, p)
}

// P3.3: the examples, and both ends of each bound.
func TestProductExamples(t *testing.T) {
	x, y := 1+0x1p-52, 1-0x1p-53 // their product lacks a bit, wherever it lies
	rows := [][4]float64{
		{0.1, 0.1, 0.010000000000000002, -8.326672684688674e-19}, {0.1, 3, 0.30000000000000004, -2.7755575615628914e-17}, {-0.1, 3, -0.30000000000000004, 2.7755575615628914e-17},
		{3, 5, 15, 0}, {x, x, 1 + 0x1p-51, 0x1p-104}, {0x1p600, 0x1p500, inf(), 0}, {-0x1p600, 0x1p500, -inf(), 0}, {0.1, 0x1p996, 0.1 * 0x1p996, 0},
		{0x1p520 - 0x1p467, 0x1p503 - 0x1p450, 0x1p1023 - 0x1p971, 0}, {0x1p997, 0.1, 0x1p997 * 0.1, 0}, {0x1p-600, 0x1p-600, 0, 0}, {0x1p-600, -0x1p-600, 0, 0}, {0.1, 0x1p-980, 0.1 * 0x1p-980, 0},
		{0, inf(), quiet(), 0}, {minusNought(), inf(), quiet(), 0}, {0, 5, 0, 0}, {minusNought(), 5, 0, 0}, {0, -most, 0, 0}, {0, 0, 0, 0}, {inf(), -2, -inf(), 0}, {inf(), -inf(), -inf(), 0}, {math.NaN(), 0, quiet(), 0}, {-math.NaN(), inf(), quiet(), 0},
		{0x1p-969 * x, x, 0x1p-969 * (1 + 0x1p-51), least * 0x1p1}, {0x1p-970 * x, x, 0x1p-970 * (1 + 0x1p-51), 0},
		{0x1p996 * x, 0x1p-9 * x, 0x1p996 * (1 + 0x1p-51) * 0x1p-9, 0},
		{0x1p995 * x, x, 0x1p995 * (1 + 0x1p-51), 0x1p891}, {0x1p996, y, 0x1p996 * y, 0},
		{0x1p510 * x, 0x1p509 * x, 0x1p1019 * (1 + 0x1p-51), 0x1p915}, {0x1p510 * x, 0x1p510 * x, 0x1p1020 * (1 + 0x1p-51), 0},
	}
	for _, r := range rows {
		p, e := Product(r[0], r[1])
		checkPair(t, "Product", r[:2], p, e, r[2], r[3])
	}
}

// P3.3: the bounds themselves are within: products that are rounded to them, and a factor 2^996.
func TestProductAtBounds(t *testing.T) {
	at := map[float64]int{}
	for _, f := range factors() {
		p, e := Product(f.a, f.b)
		if m := math.Abs(p); e != 0 && (m == 0x1p-969 || m == 0x1p1020) {
			at[m]++
		}
	}
	if at[0x1p-969] == 0 || at[0x1p1020] == 0 {
		t.Errorf("no product that was rounded to a bound tells what it lacks: %v", at)
	}
}

// P3.3: against exact numbers.
func TestProductExact(t *testing.T) {
	for _, f := range append(pairs(), factors()...) {
		p, e := Product(f.a, f.b)
		wantP, wantE := productWanted(t, f.a, f.b)
		checkPair(t, "Product", []float64{f.a, f.b}, p, e, wantP, wantE)
	}
}

// P3.4: the example, and floats that aren't finite.
func TestAddExamples(t *testing.T) {
	rows := [][5]float64{
		{1, 0x1p-60, 0x1p-53, 1 + 0x1p-52, 0x1p-60 - 0x1p-53}, {1, 0, 2, 3, 0}, {0, 0, minusNought(), 0, 0}, {minusNought(), minusNought(), minusNought(), 0, 0}, {inf(), 1, 1, inf(), 0}, {1, 1, -inf(), -inf(), 0},
		{1, inf(), 1, inf(), 0}, {inf(), -inf(), 1, quiet(), 0}, {1, 1, math.NaN(), quiet(), 0}, {1, -math.NaN(), 1, quiet(), 0}, {most, 0, most, inf(), 0}, {most, -most, most, inf(), 0},
		{most, 0.5 * lastBit, -lastBit, most - lastBit, 0.5 * lastBit}, {most, 0.5 * lastBit, 0, inf(), 0}, {most, 0.25 * lastBit, -1.5 * lastBit, most - lastBit, -0.25 * lastBit},
	}
	for _, r := range rows {
		h, l := Add(r[0], r[1], r[2])
		checkPair(t, "Add", r[:3], h, l, r[3], r[4])
	}
}

// P3.4: against exact numbers, of two sums and the one rounding between them.
func TestAddExact(t *testing.T) {
	ps := pairs()
	for i, p := range ps {
		for _, lo := range []float64{ps[(i*7+3)%len(ps)].a, math.Ldexp(p.a, -53), math.Ldexp(p.b, -54), -p.a, 0x1p-60} {
			h, l := Add(p.a, lo, p.b)
			midH, midL := sumWanted(t, p.a, p.b)
			low, _ := sumWanted(t, midL, lo)
			wantH, wantL := sumWanted(t, midH, low)
			checkPair(t, "Add", []float64{p.a, lo, p.b}, h, l, wantH, wantL)
		}
	}
}

// P3.5
func TestTurnedAbout(t *testing.T) {
	for _, f := range append(pairs(), factors()...) {
		args := []float64{f.a, f.b}
		s, e := Sum(f.a, f.b)
		x, y := Sum(f.b, f.a)
		checkPair(t, "Sum turned about", args, x, y, s, e)
		x, y = Sum(-f.a, -f.b)
		checkPair(t, "Sum of opposites", args, x, y, canon(-s), canon(-e))
		p, e := Product(f.a, f.b)
		x, y = Product(f.b, f.a)
		checkPair(t, "Product turned about", args, x, y, p, e)
		x, y = Product(-f.a, f.b)
		checkPair(t, "Product with the first sign turned", args, x, y, canon(-p), canon(-e))
		x, y = Product(f.a, -f.b)
		checkPair(t, "Product with the second sign turned", args, x, y, canon(-p), canon(-e))
	}
}
