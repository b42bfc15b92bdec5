package limit

import (
	"math"
	"testing"

	"tarn/api"
)

const (
	least    = math.SmallestNonzeroFloat64
	greatest = math.MaxFloat64
	normal   = 0x1p-1022 // the least one
)

func same(x, y float64) bool { return math.Float64bits(x) == math.Float64bits(y) }

// opposite, of 0: +0.
func opposite(x float64) float64 {
	if x == 0 {
		return 0
	}
	return -x
}

func kinds() []int { return []int{api.Plain, api.Minmod, api.Superbee, api.Leer} }

// wild: kinds that there are not.
func wild() []int {
	return []int{math.MinInt, math.MinInt + 1, math.MinInt + 3, -1 << 32, -1<<32 + 1, -1 << 31, -257, -256, -255, -4, -3, -2, -1,
		4, 5, 6, 7, 8, 255, 256, 257, 258, 1<<31 - 1, 1 << 31, 1 << 32, 1<<32 + 1, 1<<32 + 2, 1<<32 + 3, 1 << 62, 1<<62 + 1, math.MaxInt - 1, math.MaxInt}
}

// scattered: k floats above 0 with exponents from low up to ahead of high, by a rule of their own.
func scattered(k, low, high int) []float64 {
	var out []float64
	s := uint64(0x9e3779b97f4a7c15)
	for range k {
		s ^= s << 13
		s ^= s >> 7
		s ^= s << 17
		m := 1 + float64(s>>12)/(1<<52)
		out = append(out, math.Ldexp(m, low+int(s%uint64(high-low))))
	}
	return out
}

// edges: magnitudes that the chapter names, and those beside them.
func edges() []float64 {
	inf := math.Inf(1)
	return []float64{
		least, 2 * least, 3 * least, normal - least, normal, normal + least, 2 * normal,
		0x1p-600, 0x1p-540, 0x1p-537, 0x1.4p-538, 0x1.8p-538, 0x1p-538, 0x1p-512, 0x1p-511,
		0.25, 0.5, 1 - 0x1p-53, 1, 1 + 0x1p-52, 1.5, 2, 3, 6,
		0x1p511, 0x1.8p511, 0x1p512, 0x1p1000, 0x1p1022, math.Nextafter(0x1p1023, 0), 0x1p1023, math.Nextafter(0x1p1023, inf),
		math.Nextafter(greatest, 0), greatest, inf,
	}
}

func withSigns(ms []float64) []float64 {
	var out []float64
	for _, m := range ms {
		out = append(out, m, -m)
	}
	return out
}

// nothings: floats that are neither above nor below 0.
func nothings() []float64 {
	out := []float64{0, math.Copysign(0, -1)}
	for _, b := range []uint64{0x7ff0000000000001, 0x7ff8000000000000, api.QuietNaN, 0x7fffffffffffffff} {
		out = append(out, math.Float64frombits(b), math.Float64frombits(b|1<<63))
	}
	return out
}

// every: with both signs the edges and some others, and what is neither above nor below 0.
func every() []float64 {
	ms := append(edges(), scattered(30, -3, 3)...)
	ms = append(ms, scattered(20, -540, -530)...)
	ms = append(ms, scattered(20, -1022, 1024)...)
	return append(withSigns(ms), nothings()...)
}

func forPairs(try func(a, b float64)) {
	fs := every()
	for _, a := range fs {
		for _, b := range fs {
			try(a, b)
		}
	}
}

// P10.1.
func TestWhichLimitersThereAre(t *testing.T) {
	for _, k := range kinds() {
		if !Valid(k) {
			t.Errorf("Valid(%d) is false", k)
		}
	}
	for _, k := range wild() {
		if Valid(k) {
			t.Errorf("Valid(%d) is true", k)
		}
	}
}

// P10.1: the chapter's examples, and numbers that tell one limiter or one order of Leer's operations from another.
func TestSlopesByHand(t *testing.T) {
	nan, inf := math.NaN(), math.Inf(1)
	for _, r := range []struct {
		kind       int
		a, b, want float64
	}{
		{api.Minmod, 1, 3, 1},
		{api.Minmod, 3, 1, 1},
		{api.Minmod, -1, -3, -1},
		{api.Minmod, 1, -3, 0},
		{api.Minmod, -1, 3, 0},
		{api.Minmod, 0, 3, 0},
		{api.Minmod, math.Copysign(0, -1), -3, 0},
		{api.Minmod, nan, 3, 0},
		{api.Minmod, -3, nan, 0},
		{api.Minmod, inf, inf, inf},
		{api.Minmod, -inf, -inf, -inf},
		{api.Minmod, inf, 3, 3},
		{api.Minmod, -3, -inf, -3},
		{api.Minmod, inf, -inf, 0},
		{api.Superbee, 1, 3, 2},
		{api.Superbee, 3, 1, 2},
		{api.Superbee, -3, -1, -2},
		{api.Superbee, 1, 1, 1},
		{api.Superbee, 2, 3, 3},
		{api.Superbee, 1, 2, 2},
		{api.Superbee, least, least, least},
		{api.Superbee, least, 1, 2 * least},
		{api.Superbee, greatest, greatest, greatest},
		{api.Superbee, greatest, inf, inf},
		{api.Superbee, 0x1p1022, inf, 0x1p1023},
		{api.Superbee, inf, inf, inf},
		{api.Superbee, -inf, -1, -2},
		{api.Leer, 1, 3, 1.5},
		{api.Leer, -1, -3, -1.5},
		{api.Leer, 1, 1, 1},
		{api.Leer, 2, 6, 3},
		{api.Leer, 0x1p1023, 0x1p1023, 0},
		{api.Leer, -0x1p1023, -0x1p1023, 0},
		{api.Leer, 0x1p1023, 0x1p-10, 0},      // 2 * a isn't finite
		{api.Leer, 0x1p-10, 0x1p1023, 0x1p-9}, // though 2 * b isn't
		{api.Leer, 0x1p512, 0x1p512, 0},       // the product isn't, though all else is
		{api.Leer, 0x1p511, 0x1p511, 0x1p511},
		{api.Leer, 1, greatest, 0}, // the product isn't
		{api.Leer, inf, 1, 0},
		{api.Leer, 1, inf, 0},
		{api.Leer, -inf, -inf, 0},
		{api.Leer, least, least, 0}, // the product is too small for a float
		{api.Leer, -least, -least, 0},
		{api.Leer, 0x1p-537, 0x1.4p-538, 0x1p-537 / 1.625}, // the product is (2 * a) * b: 1.25 of the least, which rounds to the least
		{api.Plain, 1, 3, 0},
		{api.Plain, -1, -3, 0},
		{api.Plain, inf, inf, 0},
		{4, 1, 3, 0},
		{-1, 1, 3, 0},
		{-1, -1, -3, 0},
	} {
		if s := Slope(r.kind, r.a, r.b); !same(s, r.want) {
			t.Errorf("Slope(%d, %v, %v) is %v, want %v", r.kind, r.a, r.b, s, r.want)
		}
	}
}

// P10.1: against the model, every kind and every pair.
func TestSlopesAgainstTheModel(t *testing.T) {
	forPairs(func(a, b float64) {
		for _, k := range kinds() {
			if s, want := Slope(k, a, b), model(k, a, b); !same(s, want) {
				t.Fatalf("Slope(%d, %v, %v) is %x, want %x", k, a, b, math.Float64bits(s), math.Float64bits(want))
			}
		}
	})
}

// P10.1: +0 of two signs, of noughts and NaNs, of Plain, and of kinds that there are not.
func TestNoSlope(t *testing.T) {
	forPairs(func(a, b float64) {
		if !(a > 0 && b > 0) && !(a < 0 && b < 0) {
			for _, k := range kinds() {
				if s := Slope(k, a, b); !same(s, 0) {
					t.Fatalf("Slope(%d, %v, %v) is %v", k, a, b, s)
				}
			}
		}
		if s := Slope(api.Plain, a, b); !same(s, 0) {
			t.Fatalf("Slope(Plain, %v, %v) is %v", a, b, s)
		}
		for _, k := range wild() {
			if s := Slope(k, a, b); !same(s, 0) {
				t.Fatalf("Slope(%d, %v, %v) is %v", k, a, b, s)
			}
		}
	})
}

// P10.2.
func TestTheOrderDoesNotCount(t *testing.T) {
	forPairs(func(a, b float64) {
		for _, k := range kinds() {
			if k == api.Leer && (math.IsInf(2*a, 0) || math.IsInf(2*b, 0)) {
				continue
			}
			if s, r := Slope(k, a, b), Slope(k, b, a); !same(s, r) {
				t.Fatalf("Slope(%d, %v, %v) is %v, the other way round %v", k, a, b, s, r)
			}
		}
	})
}

// P10.3.
func TestOpposites(t *testing.T) {
	forPairs(func(a, b float64) {
		for _, k := range kinds() {
			if s, r := Slope(k, a, b), Slope(k, -a, -b); !same(r, opposite(s)) {
				t.Fatalf("Slope(%d, %v, %v) is %v, that of the opposites %v", k, a, b, s, r)
			}
		}
	})
}

// P10.4.
func TestBounds(t *testing.T) {
	forPairs(func(a, b float64) {
		p, q := math.Abs(a), math.Abs(b)
		if math.Signbit(a) != math.Signbit(b) || !(p > 0 && q > 0 && p <= greatest && q <= greatest) {
			return
		}
		for _, k := range kinds() {
			if s := Slope(k, a, b); s != 0 && (s > 0) != (a > 0) || s != s {
				t.Fatalf("Slope(%d, %v, %v) is %v: its sign", k, a, b, s)
			}
		}
		m, s := math.Abs(Slope(api.Minmod, a, b)), math.Abs(Slope(api.Superbee, a, b))
		if m > p || m > q || m == 0 {
			t.Fatalf("Minmod of %v, %v has the magnitude %v", a, b, m)
		}
		if s < m || s > 2*min(p, q) || s > max(p, q) {
			t.Fatalf("Superbee of %v, %v has the magnitude %v, Minmod %v", a, b, s, m)
		}
	})
}

// P10.5: all numbers that come up are normal.
func TestPowersOfTwo(t *testing.T) {
	fs := withSigns(append(scattered(40, -3, 3), scattered(40, -480, 480)...))
	for _, a := range fs {
		for _, b := range fs {
			for _, k := range kinds() {
				if s, r := Slope(k, a, b), Slope(k, 2*a, 2*b); !same(r, 2*s) {
					t.Fatalf("Slope(%d, %v, %v) is %v, that of the doubled %v", k, a, b, s, r)
				}
			}
		}
	}
}
