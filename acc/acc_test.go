package acc

import (
	"math"
	"math/big"
	"slices"
	"testing"

	"tarn/api"
)

const (
	quietBits = 0x7ff8000000000001
	maxTerms  = 1 << 20
	least     = 0x1p-1074
	most      = math.MaxFloat64
	lastBit   = 0x1p971 // of most
)

func inf() float64 { return math.Inf(1) }

func minusNought() float64 { return math.Copysign(0, -1) }

func quiet() float64 { return math.Float64frombits(quietBits) }

func above(x float64) float64 { return math.Nextafter(x, inf()) }

func below(x float64) float64 { return math.Nextafter(x, -inf()) }

func same(a, b float64) bool { return math.Float64bits(a) == math.Float64bits(b) }

func finite(x float64) bool { return math.Float64bits(x)>>52&0x7ff != 0x7ff }

// nans: with and without the sign bit, quiet and signalling.
func nans() []float64 {
	var out []float64
	for _, m := range []uint64{0x7ff0000000000001, 0x7ff8000000000000, quietBits, 0x7fffffffffffffff} {
		out = append(out, math.Float64frombits(m), math.Float64frombits(m|1<<63))
	}
	return out
}

// edges: the ends of the floats, the noughts, infinities and NaNs, and floats whose sums and products lie at the ends.
func edges() []float64 {
	out := append(nans(), 0, minusNought(), inf(), -inf(), most, -most, below(most), -below(most))
	for _, x := range []float64{least, 2 * least, 3 * least, 0x1p-1022, 0x1p-1021, 0x1p-537, 0x1p-538, 0x1p-60, 0x1p-53, 0x1p-52, 0.1, 0.5, 1, 3, 0x1p53, 1e16, 0x1p511, 0x1p512, 0x1p600, 0.25 * lastBit, 0.5 * lastBit, lastBit, 0x1p1022, 0x1p1023, 1e308} {
		for _, y := range []float64{x, above(x), below(x)} {
			out = append(out, y, -y)
		}
	}
	return out
}

// scattered: bit patterns by a fixed rule.
func scattered(n int, s uint64) []uint64 {
	out := make([]uint64, n)
	for i := range out {
		s = s*6364136223846793005 + 1442695040888963407
		out[i] = s ^ s>>29
	}
	return out
}

// significand: a float from 1 up to 2, of either sign, by scattered bits.
func significand(b uint64) float64 {
	return math.Float64frombits(b&^(0x7ff<<52) | 1023<<52)
}

// term: a number of a sum: x, or the product of x and y.
type term struct {
	x, y    float64
	product bool
}

func one(x float64) term { return term{x: x} }

func times(x, y float64) term { return term{x, y, true} }

func ones(xs ...float64) []term {
	var out []term
	for _, x := range xs {
		out = append(out, one(x))
	}
	return out
}

func (n term) addTo(a *Acc) api.Errno {
	if n.product {
		return a.AddProduct(n.x, n.y)
	}
	return a.Add(n.x)
}

func (n term) opposite() term {
	return term{-n.x, n.y, n.product}
}

// finite: whether it counts to the exact sum.
func (n term) finite() bool {
	return finite(n.x) && (!n.product || finite(n.y))
}

// model: a sum as the chapter says it, by numbers with so much room that none is rounded.
type model struct {
	count, minusNoughts int
	above, below, nan   bool
	exact               *big.Float
}

func number(x float64) *big.Float { return new(big.Float).SetPrec(4400).SetFloat64(x) }

func newModel() *model { return &model{exact: number(0)} }

func (m *model) add(n term) {
	m.count++
	if !n.product {
		n.y = 1
	}
	if !finite(n.x) || !finite(n.y) {
		p := n.x * n.y // the machine's rule for infinities and NaNs is the chapter's
		m.nan = m.nan || p != p
		m.above = m.above || p > 0
		m.below = m.below || p < 0
		return
	}
	if (n.x == 0 || n.y == 0) && math.Signbit(n.x) != math.Signbit(n.y) {
		m.minusNoughts++
	}
	m.exact.Add(m.exact, number(1).Mul(number(n.x), number(n.y)))
}

func (m *model) value() float64 {
	switch {
	case m.nan || m.above && m.below:
		return quiet()
	case m.above:
		return inf()
	case m.below:
		return -inf()
	case m.count > 0 && m.minusNoughts == m.count:
		return minusNought()
	}
	x, _ := m.exact.Float64()
	return x + 0 // -0 + +0 is +0
}

func valueOf(ns []term) float64 {
	m := newModel()
	for _, n := range ns {
		m.add(n)
	}
	return m.value()
}

func sumOf(t *testing.T, ns []term) *Acc {
	t.Helper()
	a := New()
	for _, n := range ns {
		if e := n.addTo(a); e != api.OK {
			t.Fatalf("%v can't be added: %d", n, e)
		}
	}
	return a
}

func check(t *testing.T, what string, a *Acc, want float64, count int) {
	t.Helper()
	if x := a.Value(); !same(x, want) || a.Count() != count {
		t.Errorf("%s: Value %v (%x), Count %d; want %v (%x), %d", what, x, math.Float64bits(x), a.Count(), want, math.Float64bits(want), count)
	}
}

// lists: sums of all kinds: any bits, numbers that lie near each other and cancel, edges, products beyond the floats.
func lists() [][]term {
	var out [][]term
	es := edges()
	bs := scattered(40000, 7)
	for i := 0; i+40 <= len(bs); i += 40 {
		var ns []term
		kind := i / 40 % 5
		for j := 0; j < 40; j += 2 {
			b, c := bs[i+j], bs[i+j+1]
			x, y := math.Float64frombits(b), math.Float64frombits(c)
			switch kind {
			case 1:
				x, y = math.Ldexp(significand(b), int(c%90)), math.Ldexp(significand(c), -int(b%90))
			case 2:
				x, y = math.Ldexp(significand(b), 940+int(c%84)), math.Ldexp(significand(c), int(b%80))
			case 3:
				x, y = math.Ldexp(significand(b), -1080+int(c%80)), math.Ldexp(significand(c), -int(b%80))
			case 4:
				x, y = es[b%uint64(len(es))], es[c%uint64(len(es))]
			}
			n := term{x, y, b>>32%2 == 0}
			if !n.finite() && c>>32%16 != 0 { // or nearly every sum would be a NaN
				n = one(significand(b))
			}
			ns = append(ns, n)
			if b>>33%3 == 0 {
				ns = append(ns, n.opposite())
			}
		}
		out = append(out, ns)
	}
	return out
}

// P4.1: the examples.
func TestSumExamples(t *testing.T) {
	rows := []struct {
		xs   []float64
		want float64
	}{
		{nil, 0}, {[]float64{}, 0}, {[]float64{minusNought()}, minusNought()}, {[]float64{minusNought(), minusNought()}, minusNought()}, {[]float64{minusNought(), 0}, 0},
		{[]float64{1, least, -1}, least}, {[]float64{1e308, 1e308, -1e308}, 1e308}, {[]float64{1e308, 1e308}, inf()}, {[]float64{0x1p53, 1, 0x1p-60}, 0x1p53 + 2}, {[]float64{0x1p53, 1}, 0x1p53},
		{[]float64{inf(), -inf()}, quiet()}, {[]float64{math.NaN(), 1}, quiet()}, {[]float64{-inf(), 1e308}, -inf()}, {[]float64{0x1p100, 1, -0x1p100}, 1},
	}
	for _, r := range rows {
		if x, e := Sum(r.xs); !same(x, r.want) || e != api.OK {
			t.Errorf("Sum(%v) is %v, %d; want %v", r.xs, x, e, r.want)
		}
	}
}

// P4.1: the examples with products.
func TestProductExamples(t *testing.T) {
	a := New()
	check(t, "nothing", a, 0, 0)
	steps := []struct {
		n    term
		want float64
	}{{times(least, least), 0}, {times(0x1p600, 0x1p600), inf()}, {times(-0x1p600, 0x1p600), 0}, {one(least), least}}
	for i, s := range steps {
		if e := s.n.addTo(a); e != api.OK {
			t.Errorf("adding %v: %d", s.n, e)
		}
		check(t, "the example with products", a, s.want, i+1)
	}
	check(t, "a product less 1", sumOf(t, []term{times(1+0x1p-52, 1-0x1p-52), one(-1)}), -0x1p-104, 2)
	check(t, "-0 times 5", sumOf(t, []term{times(minusNought(), 5)}), minusNought(), 1)
	check(t, "inf times -0", sumOf(t, []term{times(inf(), minusNought())}), quiet(), 1)
}

// P4.1: sums that leave the range of floats and come back, sums about its end, noughts, infinities, NaNs.
func TestEdges(t *testing.T) {
	none, nan := minusNought(), math.NaN()
	rows := []struct {
		ns   []term
		want float64
	}{
		{ones(most, most, most, -most, -most), most}, {ones(-most, -most, 1, most, most), 1}, {append(ones(0.1), times(most, most), times(most, -most)), 0.1},
		{ones(most, 0x1p970), inf()}, {ones(-most, -0x1p970), -inf()}, {ones(most, below(0x1p970)), most}, {ones(most, 0x1p970, -least), most}, {ones(-most, -0x1p970, least), -most},
		{append(ones(most, 0x1p970), times(least, -least)), most}, {append(ones(-most, -0x1p970), times(least, least)), -most}, {append(ones(most, 0x1p970), times(least, least)), inf()}, {ones(most, 0x1p970, -lastBit), most - lastBit}, {ones(below(most), 0x1p970), most - lastBit}, {ones(below(most), above(0x1p970)), most},
		{[]term{times(0x1p512, 0x1p512)}, inf()}, {[]term{times(-0x1p512, 0x1p512), one(0x1p970)}, -inf()}, {[]term{times(-0x1p512, 0x1p512), one(above(0x1p970))}, -most}, {[]term{times(most, most)}, inf()}, {[]term{times(most, most), times(-most, below(most))}, inf()},
		{ones(least, least), 2 * least}, {ones(0x1p-1022, -least), 0x1p-1022 - least}, {ones(below(0x1p-1022), least), 0x1p-1022}, {ones(0x1p-1074, -0x1p-1074), 0}, {ones(-least), -least},
		{[]term{times(least, 0.5)}, 0}, {[]term{times(-least, 0.5)}, 0}, {[]term{times(least, above(0.5))}, least}, {[]term{times(least, 0.5), times(least, least)}, least}, {[]term{times(least, -0.5), times(least, -least)}, -least}, {[]term{times(least, 1.5)}, 2 * least}, {[]term{times(least, 1.5), times(-least, least)}, least}, {[]term{times(least, 0.5), times(least, 0.5)}, least},
		{[]term{times(-least, least)}, 0}, {[]term{times(-least, least), one(none)}, 0}, {ones(0), 0}, {ones(none, 1, -1), 0}, {ones(none, none, 5), 5}, {ones(-1, none, 1, none), 0},
		{[]term{times(none, -5)}, 0}, {[]term{times(0, -5), one(none)}, none}, {[]term{times(none, none)}, 0}, {[]term{times(0, none)}, none}, {[]term{times(-least, 0)}, none}, {[]term{times(none, 5), one(0)}, 0}, {[]term{times(0, 5), times(0, -5)}, 0}, {[]term{one(none), times(none, 1), times(-5, 0)}, none},
		{ones(inf(), none), inf()}, {ones(inf(), inf(), -most), inf()}, {ones(-inf(), -inf()), -inf()}, {ones(inf(), 1, -inf(), 1), quiet()}, {ones(-nan, inf()), quiet()}, {ones(none, nan), quiet()},
		{[]term{times(inf(), -2)}, -inf()}, {[]term{times(-inf(), -least)}, inf()}, {[]term{times(-inf(), inf())}, -inf()}, {[]term{times(-inf(), -inf()), one(inf())}, inf()}, {[]term{times(0, -inf())}, quiet()}, {[]term{times(nan, 0), one(1)}, quiet()}, {[]term{times(inf(), 1), times(-1, inf())}, quiet()}, {[]term{times(0x1p1000, 0x1p1000), one(-inf())}, -inf()}, {[]term{times(inf(), nan)}, quiet()},
		{ones(1, 0x1p-53), 1}, {ones(1+0x1p-52, 0x1p-53), 1 + 0x1p-51}, {ones(1, 0x1p-53, least), 1 + 0x1p-52}, {ones(-1, -0x1p-53, -least), -1 - 0x1p-52}, {ones(1, -0x1p-54), 1}, {ones(1, -0x1p-54, -least), 1 - 0x1p-53}, {ones(0.1, 0.2, -0.3), 0x1p-55}, {ones(2-0x1p-52, 0x1p-53), 2}, {ones(2-0x1p-52, 0x1p-53, -least), 2 - 0x1p-52},
	}
	for _, r := range rows {
		a := New()
		for i, n := range r.ns {
			if e := n.addTo(a); e != api.OK || a.Count() != i+1 {
				t.Errorf("%v: %d, Count %d", r.ns[:i+1], e, a.Count())
			}
		}
		if x := a.Value(); !same(x, r.want) || !same(x, a.Value()) {
			t.Errorf("Value of %v is %v (%x), want %v", r.ns, x, math.Float64bits(x), r.want)
		}
	}
}

// P4.1: every NaN gives the one NaN, alone, as a factor, behind other numbers and ahead of them.
func TestNaNs(t *testing.T) {
	for _, x := range nans() {
		for _, ns := range [][]term{ones(x), ones(x, 1), ones(1, x), ones(inf(), x), ones(x, -inf()), {times(x, 1)}, {times(1, x)}, {times(0, x)}, {times(x, -inf())}, {times(x, x)}} {
			check(t, "with a NaN", sumOf(t, ns), quiet(), len(ns))
		}
	}
}

// P4.1: middles between two floats of each size, just beside them, and their opposites.
func TestMiddles(t *testing.T) {
	bs := scattered(2098, 3)
	for i, b := range bs {
		e := i - 1074
		for _, x := range []float64{math.Ldexp(1, e), math.Ldexp(math.Abs(significand(b)), e), below(math.Ldexp(1, e+1))} {
			if !finite(x) || x == 0 {
				continue
			}
			step, odd := above(x)-x, math.Float64bits(x)%2 == 1
			if x == most {
				step = lastBit
			}
			even := x
			if odd {
				even = above(x)
			}
			for _, s := range []float64{1, -1} {
				middle := []term{one(s * x), times(s*step, 0.5)}
				check(t, "a middle", sumOf(t, middle), s*even, 2)
				check(t, "below a middle", sumOf(t, append(middle, times(-s*least, least))), s*x, 3)
				check(t, "above a middle", sumOf(t, append(middle, times(s*least, least))), s*above(x), 3)
			}
		}
	}
}

// P4.1: against exact numbers, behind each call.
func TestAgainstExactNumbers(t *testing.T) {
	for _, ns := range lists() {
		a, m := New(), newModel()
		for i, n := range ns {
			if e := n.addTo(a); e != api.OK {
				t.Fatalf("%v can't be added: %d", n, e)
			}
			m.add(n)
			if x := a.Value(); !same(x, m.value()) || a.Count() != m.count {
				t.Fatalf("Value of %v is %v, Count %d; want %v, %d", ns[:i+1], x, a.Count(), m.value(), m.count)
			}
		}
	}
}

// P4.1: Sum is Value of all; it neither changes nor keeps what it is given.
func TestSumOfLists(t *testing.T) {
	for _, ns := range lists() {
		var xs []float64
		for _, n := range ns {
			xs = append(xs, n.x)
		}
		room := append(xs[:len(xs):len(xs)], 77, 78)
		before := slices.Clone(room)
		x, e := Sum(room[:len(xs)])
		if want := valueOf(ones(xs...)); !same(x, want) || e != api.OK {
			t.Errorf("Sum(%v) is %v, %d; want %v", xs, x, e, want)
		}
		for i := range room {
			if !same(room[i], before[i]) {
				t.Fatalf("Sum changed number %d of its list", i)
			}
		}
	}
}

func shuffled(ns []term, s uint64) []term {
	out := slices.Clone(ns)
	for i, b := range scattered(len(out), s) {
		j := int(b % uint64(i+1))
		out[i], out[j] = out[j], out[i]
	}
	return out
}

// pooled: the sum of numbers that were dealt out to several sums, put together in pairs.
func pooled(t *testing.T, ns []term, k int) *Acc {
	t.Helper()
	var as []*Acc
	for i := range k {
		as = append(as, New())
		for j := i; j < len(ns); j += k {
			ns[j].addTo(as[i])
		}
	}
	for len(as) > 1 {
		if e := as[1].Merge(as[0]); e != api.OK {
			t.Fatalf("Merge: %d", e)
		}
		as = append(as[2:], as[1])
	}
	return as[0]
}

// P4.2
func TestOrderPlaysNoPart(t *testing.T) {
	for i, ns := range lists() {
		want := valueOf(ns)
		first := sumOf(t, ns)
		for s := range uint64(4) {
			other := shuffled(ns, s+uint64(i))
			a := sumOf(t, other)
			check(t, "in another order", a, want, len(ns))
			k := 2 + int(s)*3
			b := pooled(t, other, k)
			check(t, "put together", b, want, len(ns))
			// what is still unseen shows when the greater numbers are taken off again
			for j, n := range ns[:len(ns)/2] {
				n.opposite().addTo(a)
				n.opposite().addTo(b)
				if s == 0 {
					n.opposite().addTo(first)
				}
				check(t, "in another order, and some taken off", a, b.Value(), len(ns)+j+1)
			}
			check(t, "in another order, and half taken off", a, first.Value(), first.Count())
		}
	}
}

// P4.2: a list that is merged into an empty sum, or an empty one into it, and all of it twice.
func TestMerged(t *testing.T) {
	for _, ns := range lists() {
		a, empty := sumOf(t, ns), New()
		want, twice := valueOf(ns), valueOf(slices.Concat(ns, ns))
		if e := a.Merge(New()); e != api.OK {
			t.Errorf("Merge of nothing: %d", e)
		}
		check(t, "with nothing", a, want, len(ns))
		if e := empty.Merge(a); e != api.OK {
			t.Errorf("Merge into nothing: %d", e)
		}
		check(t, "into nothing", empty, want, len(ns))
		if e := a.Merge(a); e != api.OK {
			t.Errorf("Merge with itself: %d", e)
		}
		check(t, "with itself", a, twice, 2*len(ns))
		empty.Merge(sumOf(t, ns))
		check(t, "with its like", empty, twice, 2*len(ns))
	}
	a := sumOf(t, ones(minusNought()))
	a.Merge(New())
	a.Merge(sumOf(t, []term{times(0, -3)}))
	check(t, "noughts below nothing", a, minusNought(), 2)
	a.Merge(sumOf(t, ones(0)))
	check(t, "with +0", a, 0, 3)
	check(t, "of nothing", pooled(t, nil, 3), 0, 0)
}

// P4.3
func TestAsTheMachineReckons(t *testing.T) {
	es := edges()
	var pairs [][2]float64
	for _, x := range es {
		for _, y := range es {
			pairs = append(pairs, [2]float64{x, y})
		}
	}
	bs := scattered(40000, 11)
	for i := 0; i < len(bs); i += 2 {
		x, y := significand(bs[i]), significand(bs[i+1])
		at := i%2098 - 1074
		pairs = append(pairs, [2]float64{math.Float64frombits(bs[i]), math.Float64frombits(bs[i+1])})
		pairs = append(pairs, [2]float64{math.Ldexp(x, at), math.Ldexp(y, at+i%120-60)}, [2]float64{math.Ldexp(x, at), math.Ldexp(y, -at-1074+i%60)}, [2]float64{math.Ldexp(x, at), math.Ldexp(y, 1023-at-i%3)})
	}
	for _, p := range pairs {
		x, y := p[0], p[1]
		if x != x || y != y {
			continue
		}
		if s := x + y; s == s {
			check(t, "two floats", sumOf(t, ones(x, y)), s, 2)
		}
		q := float64(x * y)
		if q == 0 && x != 0 && y != 0 {
			q = 0 // +0, though the machine may say -0
		}
		if q == q {
			check(t, "a product", sumOf(t, []term{times(x, y)}), q, 1)
		}
	}
}

// P4.4
func TestOppositesCancel(t *testing.T) {
	bs := scattered(1000, 5)
	tiny := sumOf(t, []term{times(least, least)})
	for i, ns := range lists() {
		if valueOf(ns) == 0 { // the promise is made of sums that aren't 0
			continue
		}
		a := sumOf(t, ns)
		want, count := a.Value(), a.Count()
		for _, b := range bs[i%900 : i%900+20] {
			for _, n := range []term{one(math.Float64frombits(b)), times(math.Float64frombits(b), math.Float64frombits(^b*3)), times(most, significand(b)), times(least, significand(b))} {
				if !n.finite() {
					continue
				}
				count += 2
				n.addTo(a)
				n.opposite().addTo(a)
				check(t, "with opposites", a, want, count)
				n.addTo(tiny)
				n.opposite().addTo(tiny)
			}
		}
	}
	for i := range 1073 { // what is left is the least product, exactly
		tiny.AddProduct(least, math.Ldexp(least, i))
	}
	tiny.AddProduct(least, 0.5)
	check(t, "the least product, doubled up to the least float", tiny, least, tiny.Count())
	tiny.AddProduct(least, -0.5)
	tiny.AddProduct(-least, least)
	check(t, "less than half of it", tiny, 0, tiny.Count())
}

// full: a sum with as many numbers as there may be, all alike; and one that lacks a number.
func full(t *testing.T, n term) (*Acc, *Acc) {
	t.Helper()
	a, lacks, power := New(), New(), sumOf(t, []term{n})
	for range 20 {
		if e := lacks.Merge(power); e != api.OK {
			t.Fatalf("Merge: %d", e)
		}
		power.Merge(power)
	}
	a.Merge(power)
	if a.Count() != maxTerms || lacks.Count() != maxTerms-1 {
		t.Fatalf("%d and %d numbers", a.Count(), lacks.Count())
	}
	return a, lacks
}

// refuses: whether adding answers ErrLong and changes nothing.
func refuses(t *testing.T, a *Acc) {
	t.Helper()
	before, value, count := *a, a.Value(), a.Count()
	small := sumOf(t, ones(5))
	calls := []func() api.Errno{
		func() api.Errno { return a.Add(1) }, func() api.Errno { return a.Add(math.NaN()) }, func() api.Errno { return a.Add(0) }, func() api.Errno { return a.Add(-inf()) },
		func() api.Errno { return a.AddProduct(2, 3) }, func() api.Errno { return a.AddProduct(inf(), 0) }, func() api.Errno { return a.AddProduct(inf(), 1) },
		func() api.Errno { return a.Merge(small) }, func() api.Errno { return a.Merge(a) },
	}
	for i, call := range calls {
		if e := call(); e != api.ErrLong {
			t.Errorf("call %d of a full sum: %d", i, e)
		}
		if *a != before {
			t.Errorf("call %d changed a full sum", i)
		}
	}
	if e := a.Merge(nil); e != api.ErrNil || *a != before {
		t.Errorf("Merge of nil to a full sum: %d", e)
	}
	if e := a.Merge(New()); e != api.OK || *a != before {
		t.Errorf("Merge of nothing to a full sum: %d", e)
	}
	check(t, "a full sum", a, value, count)
	check(t, "what it refused", small, 5, 1)
}

// P4.1, P4.5: MaxTerms numbers and one more.
func TestFull(t *testing.T) {
	rows := []struct {
		n    term
		want float64
	}{
		{one(1), maxTerms}, {one(minusNought()), minusNought()}, {one(0), 0}, {one(inf()), inf()}, {one(math.NaN()), quiet()}, {one(-least), -0x1p-1054}, {one(-most), -inf()},
		{times(most, most), inf()}, {times(-most, most), -inf()}, {times(least, least), 0}, {times(0x1p-600, -0x1p-474), -0x1p-1054}, {times(least, 0x1p-20), least}, {times(least, 0x1p-21), 0},
	}
	for _, r := range rows {
		a, lacks := full(t, r.n)
		check(t, "a full sum", a, r.want, maxTerms)
		refuses(t, a)
		if e := lacks.Merge(sumOf(t, ones(1, 2))); e != api.ErrLong || lacks.Count() != maxTerms-1 {
			t.Errorf("two more than fit: %d, %d", e, lacks.Count())
		}
		if e := r.n.addTo(lacks); e != api.OK {
			t.Errorf("the last number: %d", e)
		}
		check(t, "a sum that was filled", lacks, r.want, maxTerms)
		refuses(t, lacks)
	}
}

// P4.1: the greatest sums that there can be are still exact: nothing is lost above.
func TestGreatestSums(t *testing.T) {
	for _, s := range []float64{1, -1} {
		a, back := sumOf(t, ones(s*0.1)), New()
		up, down := sumOf(t, []term{times(s*most, most)}), sumOf(t, []term{times(-s*most, most)})
		for range 19 { // 2^19 - 1 of either sign
			a.Merge(up)
			back.Merge(down)
			up.Merge(up)
			down.Merge(down)
		}
		check(t, "a great sum", a, s*inf(), 1<<19)
		if e := a.Merge(back); e != api.OK {
			t.Errorf("Merge: %d", e)
		}
		check(t, "a great sum, taken off again", a, s*0.1, maxTerms-1)
	}
}

// P4.1: Sum of MaxTerms numbers, and of one more.
func TestLongSums(t *testing.T) {
	xs := make([]float64, maxTerms+1)
	for i := range xs {
		xs[i] = 0.1
	}
	want, _ := number(1).Mul(number(0.1), number(maxTerms)).Float64()
	if x, e := Sum(xs[:maxTerms]); !same(x, want) || e != api.OK {
		t.Errorf("Sum of MaxTerms: %v, %d", x, e)
	}
	for _, last := range []float64{0.1, 0, math.NaN(), inf()} {
		xs[maxTerms] = last
		if x, e := Sum(xs); !same(x, 0) || e != api.ErrLong {
			t.Errorf("Sum of one more: %v, %d", x, e)
		}
	}
}

// P4.1, P4.5, P1: nil sums.
func TestNil(t *testing.T) {
	var none *Acc
	a := sumOf(t, ones(1, 2))
	before := *a
	for i, e := range []api.Errno{none.Add(1), none.Add(math.NaN()), none.AddProduct(1, 2), none.Merge(a), none.Merge(nil), a.Merge(none)} {
		if e != api.ErrNil {
			t.Errorf("call %d with a nil sum: %d", i, e)
		}
	}
	if *a != before {
		t.Error("a nil sum changed another one")
	}
	check(t, "a nil sum", none, 0, 0)
	f, _ := full(t, one(1))
	if e := none.Merge(f); e != api.ErrNil {
		t.Errorf("a full sum to a nil one: %d", e)
	}
}

// P4.5: Merge changes b in nothing, and the two go on by themselves.
func TestSumsHaveNothingInCommon(t *testing.T) {
	for _, ns := range lists() {
		a, b := sumOf(t, ns[:len(ns)/2]), sumOf(t, ns[len(ns)/2:])
		beforeB, valueB, countB := *b, b.Value(), b.Count()
		a.Merge(b)
		if *b != beforeB {
			t.Error("Merge changed b")
		}
		check(t, "b", b, valueB, countB)
		a.Add(0x1p300)
		a.Add(math.NaN())
		check(t, "b, when a goes on", b, valueB, countB)
		valueA, countA := a.Value(), a.Count()
		b.AddProduct(-3, 0x1p900)
		b.Merge(b)
		check(t, "a, when b goes on", a, valueA, countA)
	}
	a, b := New(), New()
	a.Add(1)
	check(t, "another new sum", b, 0, 0)
	check(t, "a third one", New(), 0, 0)
}
