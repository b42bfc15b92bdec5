package sum

import (
	"math"
	"math/big"
	"slices"
	"testing"
)

const (
	quietBits = 0x7ff8000000000001
	least     = 5e-324
	most      = math.MaxFloat64
	lastBit   = 0x1p971 // of most
)

func inf() float64 { return math.Inf(1) }

func minusNought() float64 { return math.Copysign(0, -1) }

func quiet() float64 { return math.Float64frombits(quietBits) }

func above(x float64) float64 { return math.Nextafter(x, inf()) }

func below(x float64) float64 { return math.Nextafter(x, -inf()) }

// nans: with and without the sign bit, quiet and signalling.
func nans() []float64 {
	var out []float64
	for _, m := range []uint64{0x7ff0000000000001, 0x7ff8000000000000, quietBits, 0x7fffffffffffffff} {
		out = append(out, math.Float64frombits(m), math.Float64frombits(m|1<<63))
	}
	return out
}

// bothSigns: each, and its opposite.
func bothSigns(xs ...float64) []float64 {
	var out []float64
	for _, x := range xs {
		out = append(out, x, -x)
	}
	return out
}

// edges: noughts, what rounds on a middle beside 1 and beside most, the ends of the floats.
func edges() []float64 {
	out := bothSigns(0, 1, 3, 0x1p-52, 0x1p-53, above(0x1p-53), below(0x1p-53), 0x1p-60, 0x1p53, 0x1p53-1, 0x1p100, 1+0x1p-52)
	out = append(out, bothSigns(least, 2*least, 0x1p-1022, below(0x1p-1022), most, 0x1p1023, lastBit, 0.5*lastBit, below(0.5*lastBit), inf())...)
	return append(out, nans()[:4]...)
}

// scattered: bit patterns by a fixed rule.
func scattered(n int) []uint64 {
	out := make([]uint64, n)
	s := uint64(987654321)
	for i := range out {
		s = s*6364136223846793005 + 1442695040888963407
		out[i] = s ^ s>>29
	}
	return out
}

// near: a float of either sign from 2^-span on up to 2^span, by scattered bits.
func near(b uint64, span uint64) float64 {
	return math.Ldexp(math.Float64frombits(b&^(0x7ff<<52)|1023<<52), int(b>>20%(2*span))-int(span))
}

func bitsOf(x float64) uint64 { return math.Float64bits(x) }

func same(a, b float64) bool { return bitsOf(a) == bitsOf(b) }

func check(t *testing.T, name string, xs []float64, have, want float64) {
	t.Helper()
	if same(have, want) {
		return
	}
	if len(xs) > 8 {
		t.Errorf("%s of %d numbers is %v (%x), want %v (%x)", name, len(xs), have, bitsOf(have), want, bitsOf(want))
		return
	}
	t.Errorf("%s%v is %v (%x), want %v (%x)", name, xs, have, bitsOf(have), want, bitsOf(want))
}

func finite(x float64) bool { return bitsOf(x)>>52&0x7ff != 0x7ff }

// exact: a finite float, with room for so many bits that no sum of two is rounded.
func exact(x float64) *big.Float {
	return new(big.Float).SetPrec(2200).SetFloat64(x)
}

func exactSum(a, b float64) *big.Float {
	return exact(0).Add(exact(a), exact(b))
}

// plus: one addition as the document says it, by exact numbers.
func plus(a, b float64) float64 {
	switch {
	case a != a || b != b || !finite(a) && !finite(b) && a != b:
		return quiet()
	case !finite(a):
		return a
	case !finite(b):
		return b
	case a == 0 && b == 0:
		return math.Float64frombits(bitsOf(a) & bitsOf(b)) // -0 of two -0 alone
	}
	s, _ := exactSum(a, b).Float64()
	if s == 0 {
		return 0
	}
	return s
}

// lost: what the rounding of a sum took away; +0 where that can't be told.
func lost(t *testing.T, a, b float64) float64 {
	t.Helper()
	s := plus(a, b)
	if !finite(a) || !finite(b) || !finite(s) {
		return 0
	}
	e, how := exact(0).Sub(exactSum(a, b), exact(s)).Float64()
	if how != big.Exact {
		t.Fatalf("what %v + %v lacks is no float", a, b)
	}
	return e + 0
}

func oneOf(x float64) float64 {
	if x != x {
		return quiet()
	}
	return x
}

func leftWanted(xs []float64) float64 {
	if len(xs) == 0 {
		return 0
	}
	s := oneOf(xs[0])
	for i := 1; i < len(xs); i++ {
		s = plus(s, xs[i])
	}
	return s
}

// pairsWanted: of the numbers from place a on, n of them.
func pairsWanted(xs []float64, a, n int) float64 {
	switch n {
	case 0:
		return 0
	case 1:
		return oneOf(xs[a])
	}
	first := n/2 + n%2
	return plus(pairsWanted(xs, a, first), pairsWanted(xs, a+first, n-first))
}

func carefulWanted(t *testing.T, xs []float64) float64 {
	t.Helper()
	s, c := 0.0, 0.0
	for _, x := range xs {
		e := lost(t, s, x)
		s = plus(s, x)
		c = plus(c, e)
	}
	return plus(s, c)
}

// threeWanted: by a sort of the magnitudes' bits; of the same magnitude the one with the sign bit comes first.
func threeWanted(a, b, c float64) float64 {
	xs := []float64{a, b, c}
	slices.SortFunc(xs, func(x, y float64) int {
		mx, my := bitsOf(x)<<1, bitsOf(y)<<1
		if mx != my {
			if mx < my {
				return -1
			}
			return 1
		}
		return int(bitsOf(y)>>63) - int(bitsOf(x)>>63)
	})
	return leftWanted(xs)
}

// lists: none, every one and two of the edges, and scattered ones of each length up to 40, of near sizes, of any bits,
// about both ends of the floats, and with an edge in their midst.
func lists() [][]float64 {
	es := append(edges(), nans()...)
	out := [][]float64{nil, {}}
	for _, a := range es {
		out = append(out, []float64{a})
		for _, b := range es {
			out = append(out, []float64{a, b}, []float64{a, b, a, b}, []float64{1, a, -1, b, 0x1p-53})
		}
	}
	for n := range 41 {
		for k := range 20 {
			bs := scattered(n + 3*k)[3*k:]
			any, close, wide := make([]float64, n), make([]float64, n), make([]float64, n)
			top, low := make([]float64, n), make([]float64, n)
			for i, b := range bs {
				any[i], close[i], wide[i] = math.Float64frombits(b), near(b, 2), near(b, 60)
				top[i], low[i] = math.Ldexp(near(b, 1), 1022), math.Ldexp(near(b, 4), -1060)
			}
			out = append(out, any, close, wide, top, low)
			if n > 0 {
				mixed := slices.Clone(close)
				mixed[k%n] = es[(7*n+k)%len(es)]
				out = append(out, mixed)
			}
		}
	}
	return out
}

// long: lists of many numbers, odd and even ones.
func long() [][]float64 {
	var out [][]float64
	for _, n := range []int{1000, 1023, 1025, 4097, 20001} {
		xs := make([]float64, n)
		for i, b := range scattered(n) {
			xs[i] = near(b, 30)
		}
		out = append(out, xs)
	}
	return out
}

func triples() [][3]float64 {
	var out [][3]float64
	es := edges()
	for _, a := range es {
		for _, b := range es {
			for _, c := range es {
				out = append(out, [3]float64{a, b, c})
			}
		}
	}
	bs := scattered(6000)
	for i := 0; i < len(bs); i += 3 {
		x, y, z := near(bs[i], 2), near(bs[i+1], 2), near(bs[i+2], 60)
		out = append(out, [3]float64{x, y, z}, [3]float64{x, -x, z}, [3]float64{x, z, y}, [3]float64{x, below(-x), y})
		out = append(out, [3]float64{math.Float64frombits(bs[i]), math.Float64frombits(bs[i+1]), math.Float64frombits(bs[i+2])})
	}
	return out
}

// P5.1: the chapter's examples, and the ends.
func TestExamples(t *testing.T) {
	n := minusNought()
	rows := []struct {
		xs                   []float64
		left, pairs, careful float64
	}{
		{nil, 0, 0, 0}, {[]float64{}, 0, 0, 0}, {[]float64{n}, n, n, 0}, {[]float64{n, n}, n, n, 0}, {[]float64{n, 0}, 0, 0, 0}, {[]float64{0, n}, 0, 0, 0}, {[]float64{n, n, n, n, n}, n, n, 0},
		{[]float64{5}, 5, 5, 5}, {[]float64{-least}, -least, -least, -least}, {[]float64{1, -1}, 0, 0, 0}, {[]float64{-1, 1, n}, 0, 0, 0},
		{[]float64{0x1p53, 1, 1}, 0x1p53, 0x1p53, 0x1p53 + 2}, {[]float64{1, 1, 0x1p53}, 0x1p53 + 2, 0x1p53 + 2, 0x1p53 + 2}, {[]float64{1, 0x1p53, 1}, 0x1p53, 0x1p53, 0x1p53 + 2},
		{[]float64{0x1p1023, 0x1p1023, -0x1p1023}, inf(), inf(), inf()}, {[]float64{0x1p1023, -0x1p1023, 0x1p1023}, 0x1p1023, 0x1p1023, 0x1p1023}, {[]float64{-0x1p1023, -0x1p1023, 0x1p1023}, -inf(), -inf(), -inf()},
		{[]float64{inf(), -inf()}, quiet(), quiet(), quiet()}, {[]float64{inf(), inf()}, inf(), inf(), inf()}, {[]float64{-inf(), 1}, -inf(), -inf(), -inf()}, {[]float64{most, most, -inf()}, quiet(), quiet(), quiet()},
		{[]float64{1, 0x1p100, 1, -0x1p100}, 0, 0, 2}, {[]float64{1, 0x1p-53, 0x1p-53}, 1, 1, 1 + 0x1p-52}, {[]float64{1 + 0x1p-52, 0x1p-53}, 1 + 0x1p-51, 1 + 0x1p-51, 1 + 0x1p-51},
		{[]float64{most, 0.5 * lastBit}, inf(), inf(), inf()}, {[]float64{most, below(0.5 * lastBit)}, most, most, most}, {[]float64{most, 0.25 * lastBit, 0.25 * lastBit}, most, most, inf()},
		{[]float64{0x1p53, 1, 1, 1}, 0x1p53, 0x1p53 + 2, 0x1p53 + 4}, {[]float64{0x1p53, 1, 1, 1, 1}, 0x1p53, 0x1p53 + 2, 0x1p53 + 4}, {[]float64{1, 1, 0x1p53, 1, 1}, 0x1p53 + 4, 0x1p53 + 4, 0x1p53 + 4},
	}
	for _, r := range rows {
		check(t, "Left", r.xs, Left(r.xs), r.left)
		check(t, "Pairs", r.xs, Pairs(r.xs), r.pairs)
		check(t, "Careful", r.xs, Careful(r.xs), r.careful)
	}
}

// P5.1: every NaN comes out as the one, alone, in any place, and behind an infinity.
func TestNaNs(t *testing.T) {
	for _, x := range nans() {
		for _, xs := range [][]float64{{x}, {x, 1}, {1, x}, {x, x}, {1, 2, x}, {x, 1, 2}, {inf(), 1, x}, {1, 2, 3, 4, x}, {x, -x, x}} {
			check(t, "Left", xs, Left(xs), quiet())
			check(t, "Pairs", xs, Pairs(xs), quiet())
			check(t, "Careful", xs, Careful(xs), quiet())
			if len(xs) == 3 {
				check(t, "Three", xs, Three(xs[0], xs[1], xs[2]), quiet())
			}
		}
	}
}

// P5.1: against exact numbers, each addition rounded by itself.
func TestListsExact(t *testing.T) {
	for _, xs := range append(lists(), long()...) {
		check(t, "Left", xs, Left(xs), leftWanted(xs))
		check(t, "Pairs", xs, Pairs(xs), pairsWanted(xs, 0, len(xs)))
		check(t, "Careful", xs, Careful(xs), carefulWanted(t, xs))
	}
}

// P5.1: a list of a million numbers, whose sums by hand are easy to tell: 0x1p53 swallows each 1 that comes alone.
func TestLongList(t *testing.T) {
	n := 1<<20 + 1
	xs := make([]float64, n)
	for i := range xs {
		xs[i] = 1
	}
	xs[0] = 0x1p53
	check(t, "Left", xs, Left(xs), 0x1p53)
	check(t, "Careful", xs, Careful(xs), 0x1p53+0x1p20)
	// The halves that are added to the first number hold 1, 1, 2, 4 and so on: but the two that come alone all count.
	check(t, "Pairs", xs, Pairs(xs), 0x1p53+0x1p20-2)
}

// P5.1: the chapter's examples of Three, equal magnitudes with unlike signs, both noughts, and the ends.
func TestThreeExamples(t *testing.T) {
	n := minusNought()
	rows := [][4]float64{
		{0x1p53, 1, 1, 0x1p53 + 2}, {1, 0x1p-53, 0x1p-53, 1 + 0x1p-52}, {3, -3, 0x1p-60, 0}, {-3, 3, 0x1p-60, 0}, {3, -3, -0x1p-60, 0}, {n, n, n, n}, {n, n, 0, 0}, {0, n, n, 0}, {0, 0, n, 0},
		{3, -3, 0x1p-52, 0}, {3, -3, -0x1p-51, -0x1p-51}, {1, -1, 0x1p-53, 0x1p-53}, {1, -1, -0x1p-53, 0}, {1, -1, -0x1p-54, 0}, {1, -1, 0x1p-54, 0}, {1, -1, above(0x1p-54), 0x1p-53},
		{0x1p1023, 0x1p1023, -0x1p1023, 0x1p1023}, {0x1p1023, -0x1p1023, -0x1p1023, -inf()}, {most, -most, 1, 0}, {most, most, 1, inf()}, {-most, -most, 1, -inf()},
		{inf(), -inf(), 1, quiet()}, {inf(), inf(), -most, inf()}, {-inf(), 1, most, -inf()}, {1, 2, 3, 6}, {least, -least, least, least}, {0, 0, 0, 0}, {5, n, n, 5},
	}
	for _, r := range rows {
		check(t, "Three", r[:3], Three(r[0], r[1], r[2]), r[3])
	}
}

// P5.1: against exact numbers.
func TestThreeExact(t *testing.T) {
	for _, x := range triples() {
		check(t, "Three", x[:], Three(x[0], x[1], x[2]), threeWanted(x[0], x[1], x[2]))
	}
}

// P5.2
func TestThreeInAnyOrder(t *testing.T) {
	for _, x := range triples() {
		want := Three(x[0], x[1], x[2])
		for _, p := range [][3]int{{0, 2, 1}, {1, 0, 2}, {1, 2, 0}, {2, 0, 1}, {2, 1, 0}} {
			check(t, "Three in another order", x[:], Three(x[p[0]], x[p[1]], x[p[2]]), want)
		}
		if x[0] >= 0 && x[1] >= 0 && x[2] >= 0 && !(want >= max(x[0], x[1], x[2])) {
			t.Errorf("Three%v is %v, less than the greatest of them", x, want)
		}
	}
}

// wholes: lists of whole numbers whose magnitudes add up to at most 2^53; the second half takes the first one back.
func wholes() [][]float64 {
	out := [][]float64{{0x1p53}, {-0x1p53}, {0x1p52, 0x1p52}, {0x1p53 - 1, 1}, {0x1p53 - 2, 1, 1}, {1, 0x1p53 - 2, 1}, {-1, 2 - 0x1p53, -1}, {0x1p52, -0x1p52}, {0x1p52, minusNought(), -0x1p52}, {0, minusNought(), 0}}
	for n := 1; n < 60; n++ {
		room := int64(1<<53) / int64(n)
		xs := make([]float64, n)
		for i, b := range scattered(n) {
			xs[i] = float64(int64(b>>1) % room)
			if b>>63 == 1 {
				xs[i] = -xs[i]
			}
		}
		back := slices.Clone(xs)
		for i := range back {
			back[i] = math.Trunc(back[i] / 2)
		}
		for _, x := range slices.Clone(back) {
			back = append(back, -x)
		}
		out = append(out, xs, back)
	}
	return out
}

func wholeSum(xs []float64) float64 {
	var s int64
	for _, x := range xs {
		s += int64(x)
	}
	return float64(s)
}

// P5.3: whole numbers, and the same at another scale.
func TestExactPartialSums(t *testing.T) {
	for _, xs := range wholes() {
		for _, scale := range []float64{1, 0x1p-60, least, 0x1p970} {
			scaled := make([]float64, len(xs))
			for i, x := range xs {
				scaled[i] = x * scale
			}
			want := wholeSum(xs) * scale
			haves := []float64{Left(scaled), Pairs(scaled), Careful(scaled)}
			if len(xs) == 3 {
				haves = append(haves, Three(scaled[0], scaled[1], scaled[2]))
			}
			for i, have := range haves {
				if have != want {
					t.Errorf("order %d of %v, times %v, is %v, want %v", i, xs, scale, have, want)
				}
			}
		}
	}
}

// P5.4
func TestLeftGoesOn(t *testing.T) {
	all := lists()
	for i, a := range all {
		b := all[(i*31+17)%len(all)]
		if len(a) == 0 {
			continue
		}
		both := append(slices.Clone(a), b...)
		check(t, "Left of the first and the rest", both, Left(append([]float64{Left(a)}, b...)), Left(both))
	}
}

// P5.5: the numbers and the spare room behind them, to the bit.
func TestListStays(t *testing.T) {
	for _, xs := range append(lists(), long()...) {
		room := append(slices.Clone(xs), 7, math.Float64frombits(0xfff0000000000123), minusNought(), -3)
		before := make([]uint64, len(room))
		for i, x := range room {
			before[i] = bitsOf(x)
		}
		part := room[:len(xs)]
		Left(part)
		Pairs(part)
		Careful(part)
		for i, x := range room {
			if bitsOf(x) != before[i] {
				t.Fatalf("place %d of a list of %d numbers is %x, was %x", i, len(xs), bitsOf(x), before[i])
			}
		}
	}
}
