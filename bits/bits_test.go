package bits

import (
	"math"
	"math/big"
	"sort"
	"testing"

	"tarn/api"
)

const (
	quiet   = 0x7ff8000000000001
	minus   = 1 << 63
	inf     = 0x7ff0000000000000
	most    = 0x7fefffffffffffff
	normal  = 1 << 52 // 2^-1022
	one     = 0x3ff0000000000000
	two     = 0x4000000000000000
	minusTo = 0xffffffffffffffff // the NaN furthest ahead in Order
)

func by(b uint64) float64 { return math.Float64frombits(b) }

func bitsOf(x float64) uint64 { return math.Float64bits(x) }

func nan(b uint64) bool { return b&^minus > inf }

// edges: the magnitudes that the chapter names, and those beside them.
func edges() []uint64 {
	return []uint64{
		0, 1, 2, 3, normal - 2, normal - 1, normal, normal + 1, 2 * normal, 2*normal - 1,
		one - 2, one - 1, one, one + 1, 0x3ff8000000000000, two - 1, two, two + 1,
		most - 1, most, inf, inf + 1, inf + 2, 0x7ff7ffffffffffff, 0x7ff8000000000000, quiet, quiet + 1, 0x7fffffffffffffff,
	}
}

// samples: bit patterns with both signs: the edges, all powers of two with their neighbours, and some scattered ones.
func samples() []uint64 {
	ms := edges()
	for e := range uint64(0x7ff) {
		ms = append(ms, e<<52, e<<52+1, (e+1)<<52-1)
	}
	for s := range uint(52) {
		ms = append(ms, 1<<s)
	}
	return append(withSigns(ms), scattered(2000)...)
}

// few: fewer of them, for pairs and triples.
func few() []uint64 {
	ms := edges()
	for e := uint64(0); e < 0x7ff; e += 0x155 {
		ms = append(ms, e<<52, e<<52+77)
	}
	return append(withSigns(ms), scattered(60)...)
}

func withSigns(ms []uint64) []uint64 {
	var out []uint64
	for _, m := range ms {
		out = append(out, m, m|minus)
	}
	return out
}

func scattered(n int) []uint64 {
	out := make([]uint64, n)
	s := uint64(12345)
	for i := range out {
		s = s*6364136223846793005 + 1442695040888963407
		out[i] = s ^ s>>29
	}
	return out
}

func same(t *testing.T, what string, arg uint64, have float64, want uint64) {
	t.Helper()
	if bitsOf(have) != want {
		t.Errorf("%s of %016x is %016x, want %016x", what, arg, bitsOf(have), want)
	}
}

// bigRank: the rank of the float, by another way than the program's.
func bigRank(b uint64) *big.Int {
	r := new(big.Int).SetUint64(b % minus)
	if b >= minus {
		r.Neg(r)
	}
	return r
}

func TestClass(t *testing.T) {
	rows := []struct {
		b    uint64
		want int
	}{
		{0, api.Zero}, {1, api.Subnormal}, {normal - 1, api.Subnormal}, {normal, api.Normal}, {one, api.Normal},
		{most, api.Normal}, {inf, api.Infinite}, {inf + 1, api.NotANumber}, {quiet, api.NotANumber}, {0x7fffffffffffffff, api.NotANumber},
	}
	for _, r := range rows {
		for _, b := range []uint64{r.b, r.b | minus} {
			if c := Class(by(b)); c != r.want {
				t.Errorf("P1.1: Class of %016x is %d, want %d", b, c, r.want)
			}
		}
	}
	for _, b := range samples() {
		x, want := math.Abs(by(b)), api.Normal
		switch {
		case math.IsNaN(x):
			want = api.NotANumber
		case math.IsInf(x, 0):
			want = api.Infinite
		case x == 0:
			want = api.Zero
		case x < 0x1p-1022:
			want = api.Subnormal
		}
		if c := Class(by(b)); c != want {
			t.Errorf("P1.1: Class of %016x is %d, want %d", b, c, want)
		}
	}
}

func TestCanon(t *testing.T) {
	for _, b := range samples() {
		want := b
		if b == minus {
			want = 0
		}
		if nan(b) {
			want = quiet
		}
		same(t, "P1.1: Canon", b, Canon(by(b)), want)
	}
	same(t, "P1.1: Canon", 0xfff8000000000000, Canon(by(0xfff8000000000000)), 0x7ff8000000000001)
}

func TestUpAndDownAtTheEdges(t *testing.T) {
	rows := []struct{ b, up, down uint64 }{
		{0, 1, minus | 1},
		{minus, 1, minus | 1},
		{1, 2, 0},
		{minus | 1, minus, minus | 2},
		{normal - 1, normal, normal - 2},
		{normal, normal + 1, normal - 1},
		{minus | normal, minus | (normal - 1), minus | (normal + 1)},
		{one, one + 1, one - 1},
		{minus | one, minus | (one - 1), minus | (one + 1)},
		{most, inf, most - 1},
		{minus | most, minus | (most - 1), minus | inf},
		{inf, inf, most},
		{minus | inf, minus | most, minus | inf},
		{inf + 1, quiet, quiet},
		{minus | (inf + 1), quiet, quiet},
		{0x7fffffffffffffff, quiet, quiet},
		{minusTo, quiet, quiet},
		{quiet, quiet, quiet},
		{minus | quiet, quiet, quiet},
	}
	for _, r := range rows {
		same(t, "P1.1: Up", r.b, Up(by(r.b)), r.up)
		same(t, "P1.1: Down", r.b, Down(by(r.b)), r.down)
	}
}

func TestUpAndDownEverywhere(t *testing.T) {
	for _, b := range samples() {
		if nan(b) {
			same(t, "P1.1: Up", b, Up(by(b)), quiet)
			same(t, "P1.1: Down", b, Down(by(b)), quiet)
			continue
		}
		x := by(b)
		same(t, "P1.1: Up", b, Up(x), bitsOf(math.Nextafter(x, math.Inf(1))))
		same(t, "P1.1: Down as -Up(-x)", b, Down(x), bitsOf(Up(by(b^minus)))^minus)
	}
}

func TestNeighbours(t *testing.T) {
	next := big.NewInt(1)
	for _, b := range samples() {
		x := by(b)
		if math.IsNaN(x) || math.IsInf(x, 0) {
			continue
		}
		up, down := Up(x), Down(x)
		if !(down < x && x < up) {
			t.Errorf("P1.2: %016x lies not between %016x and %016x", b, bitsOf(down), bitsOf(up))
		}
		above := new(big.Int).Sub(bigRank(bitsOf(up)), bigRank(b))
		below := new(big.Int).Sub(bigRank(b), bigRank(bitsOf(down)))
		if above.Cmp(next) != 0 || below.Cmp(next) != 0 {
			t.Errorf("P1.2: %016x is %v ranks from Up, %v from Down", b, above, below)
		}
		if x != 0 && up != 0 {
			same(t, "P1.2: Down(Up(x))", b, Down(up), b)
		}
		if x != 0 && down != 0 {
			same(t, "P1.2: Up(Down(x))", b, Up(down), b)
		}
	}
}

func TestUlpAtTheEdges(t *testing.T) {
	rows := []struct{ b, want uint64 }{
		{0, 1}, {1, 1}, {normal - 1, 1}, {normal, 1}, {2*normal - 1, 1}, {2 * normal, 2},
		{one, bitsOf(0x1p-52)}, {0x3ff8000000000000, bitsOf(0x1p-52)}, {one - 1, bitsOf(0x1p-53)}, {two, bitsOf(0x1p-51)},
		{most - 1, bitsOf(0x1p971)}, {most, inf}, {inf, inf}, {inf + 1, quiet}, {quiet, quiet}, {0x7fffffffffffffff, quiet},
	}
	for _, r := range rows {
		same(t, "P1.1: Ulp", r.b, Ulp(by(r.b)), r.want)
		same(t, "P1.1: Ulp", r.b|minus, Ulp(by(r.b|minus)), r.want)
	}
}

func TestUlpIsTheExactStep(t *testing.T) {
	for _, b := range samples() {
		m := b &^ minus
		if m >= most {
			continue
		}
		step := new(big.Float).SetPrec(2200).Sub(exact(m+1), exact(m))
		if have := exact(bitsOf(Ulp(by(b)))); have.Cmp(step) != 0 {
			t.Errorf("P1.1: Ulp of %016x is %v, want %v", b, have, step)
		}
	}
}

func exact(b uint64) *big.Float { return new(big.Float).SetPrec(2200).SetFloat64(by(b)) }

func TestOrderLadder(t *testing.T) {
	ladder := []uint64{
		minusTo, minus | quiet, 0xfff8000000000000, minus | (inf + 2), minus | (inf + 1), minus | inf, minus | most, minus | two, minus | one,
		minus | normal, minus | 2, minus | 1, minus, 0, 1, 2, normal, one, two, most, inf, inf + 1, inf + 2, 0x7ff8000000000000, quiet, 0x7fffffffffffffff,
	}
	for i, a := range ladder {
		for j, b := range ladder {
			want := 0
			if i < j {
				want = -1
			} else if i > j {
				want = 1
			}
			if have := Order(by(a), by(b)); have != want {
				t.Errorf("P1.1: Order(%016x, %016x) is %d, want %d", a, b, have, want)
			}
		}
	}
}

func TestOrderIsTotal(t *testing.T) {
	all := few()
	sort.SliceStable(all, func(i, j int) bool { return Order(by(all[i]), by(all[j])) < 0 })
	for i, a := range all {
		for j, b := range all {
			have := Order(by(a), by(b))
			if have != -Order(by(b), by(a)) || (have == 0) != (a == b) || i < j && have > 0 {
				t.Errorf("P1.3: Order(%016x, %016x) is %d, turned about %d, at %d and %d", a, b, have, Order(by(b), by(a)), i, j)
			}
			x, y := by(a), by(b)
			if nan(a) || nan(b) || x == 0 && y == 0 {
				continue
			}
			if (have < 0) != (x < y) || (have > 0) != (x > y) {
				t.Errorf("P1.3: Order(%v, %v) is %d", x, y, have)
			}
		}
	}
}

func TestMaxAndMinAtTheEdges(t *testing.T) {
	rows := []struct{ a, b, max, min uint64 }{
		{minus, 0, 0, minus},
		{0, 0, 0, 0},
		{minus, minus, minus, minus},
		{one, two, two, one},
		{minus | one, minus | two, minus | one, minus | two},
		{minus | 1, 0, 0, minus | 1},
		{minus, 1, 1, minus},
		{most, inf, inf, most},
		{minus | inf, inf, inf, minus | inf},
		{minus | inf, minus | most, minus | most, minus | inf},
		{inf + 1, one, quiet, quiet},
		{minus | (inf + 1), minus | inf, quiet, quiet},
		{0x7fffffffffffffff, inf, quiet, quiet},
		{inf + 1, minus | quiet, quiet, quiet},
	}
	for _, r := range rows {
		for _, p := range [][2]uint64{{r.a, r.b}, {r.b, r.a}} {
			if have := bitsOf(Max(by(p[0]), by(p[1]))); have != r.max {
				t.Errorf("P1.1: Max(%016x, %016x) is %016x, want %016x", p[0], p[1], have, r.max)
			}
			if have := bitsOf(Min(by(p[0]), by(p[1]))); have != r.min {
				t.Errorf("P1.1: Min(%016x, %016x) is %016x, want %016x", p[0], p[1], have, r.min)
			}
		}
	}
}

func TestMaxAndMinAreTheTwoAgain(t *testing.T) {
	for _, a := range few() {
		for _, b := range few() {
			x, y := by(a), by(b)
			hi, lo := bitsOf(Max(x, y)), bitsOf(Min(x, y))
			if hi != bitsOf(Max(y, x)) || lo != bitsOf(Min(y, x)) {
				t.Errorf("P1.4: Max or Min of %016x and %016x hang on the order", a, b)
			}
			if nan(a) || nan(b) {
				if hi != quiet || lo != quiet {
					t.Errorf("P1.1: Max, Min of %016x and %016x are %016x, %016x", a, b, hi, lo)
				}
				continue
			}
			if !(hi == a && lo == b || hi == b && lo == a) || by(hi) < by(lo) {
				t.Errorf("P1.4: Max, Min of %016x and %016x are %016x, %016x", a, b, hi, lo)
			}
			if hi != bitsOf(math.Max(x, y)) || lo != bitsOf(math.Min(x, y)) {
				t.Errorf("P1.1: Max, Min of %016x and %016x are %016x, %016x", a, b, hi, lo)
			}
		}
	}
}

func TestBetweenAtTheEdges(t *testing.T) {
	rows := []struct {
		a, b uint64
		n    int64
		ok   bool
	}{
		{minus | 1, 1, 2, true},
		{1, minus | 1, -2, true},
		{minus, 0, 0, true},
		{0, minus, 0, true},
		{minus, 1, 1, true},
		{one, two, 1 << 52, true},
		{two, one, -1 << 52, true},
		{minus | one, minus | two, -1 << 52, true},
		{0, inf, inf, true},
		{0, minus | inf, -inf, true},
		{inf, inf, 0, true},
		{minus | inf, inf, 0, false},
		{inf, minus | inf, 0, false},
		{minus | two, two - 1, math.MaxInt64, true}, // 2^63 - 1
		{minus | two, two, 0, false},                // 2^63
		{two, minus | two, math.MinInt64, true},     // -2^63
		{two, minus | (two + 1), 0, false},          // -2^63 - 1
		{two + 1, minus | two, 0, false},
		{minus | (two + 1), two - 1, 0, false},
		{inf + 1, one, 0, false},
		{one, minus | (inf + 1), 0, false},
		{quiet, quiet, 0, false},
		{0, 0x7fffffffffffffff, 0, false},
		{minusTo, minusTo, 0, false},
	}
	for _, r := range rows {
		if n, ok := Between(by(r.a), by(r.b)); n != r.n || ok != r.ok {
			t.Errorf("P1.1: Between(%016x, %016x) is %d, %v, want %d, %v", r.a, r.b, n, ok, r.n, r.ok)
		}
	}
}

func TestBetweenIsTheDifferenceOfRanks(t *testing.T) {
	for _, a := range few() {
		for _, b := range few() {
			n, ok := Between(by(a), by(b))
			d := new(big.Int).Sub(bigRank(b), bigRank(a))
			if nan(a) || nan(b) || !d.IsInt64() {
				if n != 0 || ok {
					t.Errorf("P1.1: Between(%016x, %016x) is %d, %v, want 0, false", a, b, n, ok)
				}
			} else if n != d.Int64() || !ok {
				t.Errorf("P1.1: Between(%016x, %016x) is %d, %v, want %v", a, b, n, ok, d)
			}
		}
	}
}

func TestBetweenCountsSteps(t *testing.T) {
	for _, b := range few() {
		if nan(b) {
			continue
		}
		from, x := by(b), by(b)
		for n := int64(0); n < 20; n++ {
			if have, ok := Between(from, x); have != n || !ok {
				t.Errorf("P1.5: %d times Up from %016x: Between says %d, %v", n, b, have, ok)
			}
			if have, ok := Between(x, from); have != -n || !ok {
				t.Errorf("P1.5: %d times Up from %016x: Between says %d, %v back", n, b, have, ok)
			}
			if math.IsInf(x, 1) {
				break
			}
			x = Up(x)
		}
	}
}

func TestBetweenAddsUp(t *testing.T) {
	all := few()
	for _, a := range all {
		for _, b := range all {
			ab, ok := Between(by(a), by(b))
			if !ok {
				continue
			}
			for _, c := range all {
				bc, ok1 := Between(by(b), by(c))
				ac, ok2 := Between(by(a), by(c))
				if ok1 && ok2 && ab+bc != ac {
					t.Fatalf("P1.5: Between %016x, %016x, %016x: %d and %d are not %d", a, b, c, ab, bc, ac)
				}
			}
		}
	}
}
