package conv

import (
	"math"
	"math/big"
	"slices"
	"testing"
)

const (
	quiet = 0x7ff8000000000001
	least = -1 << 63
	most  = 1<<63 - 1
)

func inf() float64 { return math.Inf(1) }

func minusNought() float64 { return math.Copysign(0, -1) }

// nans: with and without the sign bit, quiet and signalling, the one that is answered and others.
func nans() []float64 {
	var out []float64
	for _, m := range []uint64{0x7ff0000000000001, 0x7ff7ffffffffffff, 0x7ff8000000000000, quiet, 0x7fffffffffffffff, 0x7ff0000020000000} {
		out = append(out, math.Float64frombits(m), math.Float64frombits(m|1<<63))
	}
	return out
}

func power(e int) float64 { return math.Ldexp(1, e) }

func above(x float64) float64 { return math.Nextafter(x, inf()) }

func below(x float64) float64 { return math.Nextafter(x, -inf()) }

// around: each with the two floats beside it, and the opposites.
func around(xs ...float64) []float64 {
	var out []float64
	for _, x := range xs {
		for _, y := range []float64{x, above(x), below(x)} {
			out = append(out, y, -y)
		}
	}
	return out
}

// scattered: bit patterns by a fixed rule.
func scattered(n int) []uint64 {
	out := make([]uint64, n)
	s := uint64(987654321)
	for i := range out {
		s = s*6364136223846793005 + 1442695040888963407
		out[i] = s ^ s>>31
	}
	return out
}

// samples: floats that are no NaN: noughts, infinities, all powers of 2 with what lies beside them, halves,
// scattered bits, and scattered floats of sizes at which something is rounded.
func samples() []float64 {
	out := []float64{0, minusNought(), inf(), -inf(), math.MaxFloat64, -math.MaxFloat64}
	for e := -1074; e < 1024; e++ {
		out = append(out, around(power(e), 1.5*power(e))...)
	}
	for i := range 200 {
		out = append(out, around(float64(i)+0.5, 0x1p51+float64(i)+0.5, 0x1p52+float64(i)+0.5)...)
	}
	out = append(out, around(0x1p128-0x1p103, math.MaxFloat32, 65504, 65519.99, 65520, 0x1p63-1024)...)
	for i, b := range scattered(4000) {
		x := math.Float64frombits(b)
		if math.IsNaN(x) {
			continue
		}
		y, _ := math.Frexp(x)
		out = append(out, x, math.Ldexp(y, i%70), math.Ldexp(y, i%50-30), math.Ldexp(y, i%300-160))
	}
	return out
}

// exact: a finite float as a number without end.
func exact(x float64) *big.Rat {
	return new(big.Rat).SetFloat64(x)
}

// floorOf: the greatest whole number that isn't above r (big's Div rounds down where the divisor is above 0).
func floorOf(r *big.Rat) *big.Int {
	return new(big.Int).Div(r.Num(), r.Denom())
}

// nearestOf: the nearest whole number, of two the even one, found from the one below and what is left.
func nearestOf(r *big.Rat) *big.Int {
	n := floorOf(r)
	left := new(big.Rat).Sub(r, new(big.Rat).SetInt(n))
	up := left.Cmp(big.NewRat(1, 2))
	if up > 0 || up == 0 && n.Bit(0) == 1 {
		n.Add(n, big.NewInt(1))
	}
	return n
}

func finite(x float64) bool { return !math.IsNaN(x) && !math.IsInf(x, 0) }

type wholeRow struct {
	x  float64
	n  int64
	ok bool
}

func checkWhole(t *testing.T, name string, call func(float64) (int64, bool), rows []wholeRow) {
	t.Helper()
	for _, r := range rows {
		if n, ok := call(r.x); n != r.n || ok != r.ok {
			t.Errorf("%s(%v) is %d, %v, want %d, %v", name, r.x, n, ok, r.n, r.ok)
		}
	}
}

func checkNotWhole(t *testing.T, name string, call func(float64) (int64, bool), xs []float64) {
	t.Helper()
	for _, x := range xs {
		if n, ok := call(x); n != 0 || ok {
			t.Errorf("%s(%v) is %d, %v, want 0, false", name, x, n, ok)
		}
	}
}

func tooGreat() []float64 {
	return append(nans(), inf(), -inf(), 0x1p63, above(0x1p63), below(-0x1p63), 0x1p64, -0x1p64, 1e300, -1e300, math.MaxFloat64, -math.MaxFloat64)
}

// P2.1
func TestRound(t *testing.T) {
	checkWhole(t, "Round", Round, []wholeRow{
		{0, 0, true}, {minusNought(), 0, true}, {1, 1, true}, {-1, -1, true}, {2.25, 2, true}, {2.75, 3, true}, {-2.75, -3, true},
		{0.5, 0, true}, {1.5, 2, true}, {2.5, 2, true}, {3.5, 4, true}, {-0.5, 0, true}, {-1.5, -2, true}, {-2.5, -2, true}, {-3.5, -4, true},
		{0.49999999999999994, 0, true}, {above(0.5), 1, true}, {-0.49999999999999994, 0, true}, {below(-0.5), -1, true},
		{2251799813685248.5, 2251799813685248, true}, {2251799813685249.5, 2251799813685250, true},
		{4503599627370495.5, 4503599627370496, true}, {4503599627370497, 4503599627370497, true},
		{9007199254740991, 9007199254740991, true}, {9007199254740992, 9007199254740992, true}, {9007199254740994, 9007199254740994, true},
		{9223372036854774784, 9223372036854774784, true}, {-9223372036854774784, -9223372036854774784, true}, {-0x1p63, least, true},
		{5e-324, 0, true}, {-5e-324, 0, true},
	})
	checkNotWhole(t, "Round", Round, tooGreat())
}

// P2.1
func TestFloor(t *testing.T) {
	checkWhole(t, "Floor", Floor, []wholeRow{
		{0, 0, true}, {minusNought(), 0, true}, {0.5, 0, true}, {-0.5, -1, true}, {1, 1, true}, {-1, -1, true}, {2.75, 2, true}, {-2.25, -3, true},
		{below(1), 0, true}, {above(-1), -1, true}, {below(-1), -2, true}, {5e-324, 0, true}, {-5e-324, -1, true}, {-1e-300, -1, true},
		{4503599627370495.5, 4503599627370495, true}, {-4503599627370495.5, -4503599627370496, true}, {9007199254740992, 9007199254740992, true},
		{9223372036854774784, 9223372036854774784, true}, {-0x1p63, least, true},
	})
	checkNotWhole(t, "Floor", Floor, tooGreat())
}

// P2.1, P2.3: Round and Floor against numbers without end.
func TestWholeAgainstExact(t *testing.T) {
	for _, x := range samples() {
		var wantN, wantF wholeRow
		if finite(x) {
			if n := nearestOf(exact(x)); n.IsInt64() {
				wantN = wholeRow{x, n.Int64(), true}
			}
			if n := floorOf(exact(x)); n.IsInt64() {
				wantF = wholeRow{x, n.Int64(), true}
			}
		}
		if n, ok := Round(x); n != wantN.n || ok != wantN.ok {
			t.Errorf("Round(%v) is %d, %v, want %d, %v", x, n, ok, wantN.n, wantN.ok)
		}
		if n, ok := Floor(x); n != wantF.n || ok != wantF.ok {
			t.Errorf("Floor(%v) is %d, %v, want %d, %v", x, n, ok, wantF.n, wantF.ok)
		}
	}
}

// P2.1
func TestClamp(t *testing.T) {
	rows := []struct {
		x       float64
		most, n int64
	}{
		{7.5, 100, 8}, {6.5, 100, 6}, {-7.5, 100, -8}, {1e300, 100, 100}, {-1e300, 100, -100}, {inf(), 100, 100}, {-inf(), 100, -100},
		{5, -3, 0}, {-5, -3, 0}, {inf(), -3, 0}, {-inf(), -3, 0}, {5, least, 0}, {inf(), least, 0}, {5, 0, 0}, {-inf(), 0, 0},
		{100.5, 100, 100}, {101.5, 100, 100}, {-100.5, 100, -100}, {99.5, 100, 100}, {98.5, 100, 98}, {100, 100, 100}, {101, 100, 100}, {-101, 100, -100},
		{0.5, 1, 0}, {minusNought(), 1, 0}, {0, most, 0},
		{0x1p63, most, most}, {-0x1p63, most, -most}, {below(0x1p63), most, 9223372036854774784}, {above(-0x1p63), most, -9223372036854774784},
		{0x1p64, most, most}, {inf(), most, most}, {-inf(), most, -most},
	}
	for _, r := range rows {
		if n := Clamp(r.x, r.most); n != r.n {
			t.Errorf("Clamp(%v, %d) is %d, want %d", r.x, r.most, n, r.n)
		}
	}
	for _, x := range nans() {
		for _, m := range mosts() {
			if n := Clamp(x, m); n != 0 {
				t.Errorf("Clamp(%x, %d) is %d, want 0", math.Float64bits(x), m, n)
			}
		}
	}
}

func mosts() []int64 {
	return []int64{least, least + 1, -1, 0, 1, 2, 100, 1 << 52, 1<<53 + 1, 9223372036854774784, most - 1, most}
}

// P2.1
func TestClampAgainstExact(t *testing.T) {
	for _, x := range samples() {
		for _, m := range mosts() {
			want := max(m, 0)
			if !finite(x) {
				if x < 0 {
					want = -want
				}
			} else if n := nearestOf(exact(x)); n.CmpAbs(big.NewInt(want)) <= 0 {
				want = n.Int64()
			} else if n.Sign() < 0 {
				want = -want
			}
			if n := Clamp(x, m); n != want {
				t.Errorf("Clamp(%v, %d) is %d, want %d", x, m, n, want)
			}
		}
	}
}

// ints: 2^53 and the ends of int64 with what lies beside them, middles of floats, and scattered ones.
func ints() []int64 {
	out := []int64{0, 1, -1, 9007199254740993, 9007199254740995, -9007199254740993, least, least + 1, most, most - 1}
	for s := range 63 {
		for d := int64(-3); d <= 3; d++ {
			out = append(out, 1<<s+d, -1<<s+d)
		}
		for d := int64(-1); d <= 1 && s > 53; d++ {
			out = append(out, 1<<s+1<<(s-53)+d, 1<<s+3<<(s-53)+d)
		}
	}
	for i, b := range scattered(2000) {
		out = append(out, int64(b)>>(i%64))
	}
	return out
}

// P2.1
func TestFromInt(t *testing.T) {
	rows := map[int64]float64{0: 0, 1: 1, -1: -1, 9007199254740992: 0x1p53, 9007199254740993: 0x1p53, 9007199254740995: 9007199254740996, -9007199254740993: -0x1p53, most: 0x1p63, least: -0x1p63, most - 511: 0x1p63, most - 512: below(0x1p63)}
	for i, x := range rows {
		if y := FromInt(i); math.Float64bits(y) != math.Float64bits(x) {
			t.Errorf("FromInt(%d) is %v, want %v", i, y, x)
		}
	}
	for _, i := range ints() {
		x, _ := new(big.Float).SetPrec(53).SetMode(big.ToNearestEven).SetInt64(i).Float64()
		if y := FromInt(i); math.Float64bits(y) != math.Float64bits(x) {
			t.Errorf("FromInt(%d) is %v, want %v", i, y, x)
		}
	}
}

// P2.1
func TestTo32(t *testing.T) {
	over := 0x1p128 - 0x1p103
	rows := []struct {
		x float64
		b uint32
	}{
		{1, 0x3f800000}, {-1.5, 0xbfc00000}, {0.1, 0x3dcccccd}, {16777217, 0x4b800000}, {16777219, 0x4b800002}, {0, 0}, {minusNought(), 0x80000000},
		{power(-149), 1}, {-power(-149), 0x80000001}, {power(-150), 0}, {-power(-150), 0x80000000}, {above(power(-150)), 1}, {below(-power(-150)), 0x80000001}, {below(power(-150)), 0},
		{1.5 * power(-149), 2}, {below(1.5 * power(-149)), 1}, {2.5 * power(-149), 2}, {power(-126), 0x00800000}, {power(-126) - power(-149), 0x007fffff}, {power(-126) - power(-150), 0x00800000},
		{5e-324, 0}, {-5e-324, 0x80000000},
		{math.MaxFloat32, 0x7f7fffff}, {over, 0x7f800000}, {-over, 0xff800000}, {below(over), 0x7f7fffff}, {above(-over), 0xff7fffff},
		{math.MaxFloat64, 0x7f800000}, {-1e300, 0xff800000}, {inf(), 0x7f800000}, {-inf(), 0xff800000},
	}
	for _, r := range rows {
		if b := To32(r.x); b != r.b {
			t.Errorf("To32(%v) is %08x, want %08x", r.x, b, r.b)
		}
	}
	for _, x := range nans() {
		if b := To32(x); b != 0x7fc00000 {
			t.Errorf("To32 of the NaN %016x is %08x", math.Float64bits(x), b)
		}
	}
}

// P2.1: floats too great for 32 bits, from the middle of the greatest finite one and 2^128 on.
func TestTo32TooGreat(t *testing.T) {
	middle := 340282356779733661637539395458142568448.0
	great := []float64{middle, above(middle), above(above(middle)), 0x1p128, below(0x1p128), above(0x1p128), 0x1p129, 0x1p200, 1e300, math.MaxFloat64, inf()}
	for _, x := range great {
		if b, o := To32(x), To32(-x); b != 0x7f800000 || o != 0xff800000 {
			t.Errorf("To32(%v) is %08x, of the opposite %08x, want the infinities", x, b, o)
		}
	}
	for _, x := range []float64{below(middle), below(below(middle)), math.MaxFloat32, above(math.MaxFloat32)} {
		if b, o := To32(x), To32(-x); b != 0x7f7fffff || o != 0xff7fffff {
			t.Errorf("To32(%v) is %08x, of the opposite %08x, want the greatest finite ones", x, b, o)
		}
	}
}

// P2.1
func TestFrom32(t *testing.T) {
	rows := map[uint32]uint64{
		0: 0, 0x80000000: 1 << 63, 1: 0x36a0000000000000, 0x80000001: 0xb6a0000000000000, 0x007fffff: 0x380fffffc0000000, 0x00800000: 0x3810000000000000,
		0x3f800000: 0x3ff0000000000000, 0x7f7fffff: 0x47efffffe0000000, 0x7f800000: 0x7ff0000000000000, 0xff800000: 0xfff0000000000000,
		0x7f800001: quiet, 0xff800001: quiet, 0x7fc00000: quiet, 0xffc00001: quiet, 0x7fffffff: quiet, 0xffffffff: quiet, 0x7fbfffff: quiet,
	}
	for b, want := range rows {
		if x := From32(b); math.Float64bits(x) != want {
			t.Errorf("From32(%08x) is %016x, want %016x", b, math.Float64bits(x), want)
		}
	}
	for _, b := range patterns32() {
		if want := byParts(uint64(b), 8, 23); math.Float64bits(From32(b)) != want {
			t.Errorf("From32(%08x) is %v, want the bits %016x", b, From32(b), want)
		}
	}
}

// P2.1
func TestTo16(t *testing.T) {
	rows := []struct {
		x float64
		b uint16
	}{
		{1, 0x3c00}, {-2, 0xc000}, {0.1, 0x2e66}, {0, 0}, {minusNought(), 0x8000}, {65504, 0x7bff}, {65519.99, 0x7bff}, {-65519.99, 0xfbff}, {below(65520), 0x7bff},
		{65520, 0x7c00}, {-65520, 0xfc00}, {65536, 0x7c00}, {1e300, 0x7c00}, {-math.MaxFloat64, 0xfc00}, {inf(), 0x7c00}, {-inf(), 0xfc00},
		{power(-24), 1}, {power(-25), 0}, {-power(-25), 0x8000}, {above(power(-25)), 1}, {below(-power(-25)), 0x8001}, {1.5 * power(-24), 2}, {2.5 * power(-24), 2},
		{power(-14), 0x0400}, {power(-14) - power(-24), 0x03ff}, {power(-14) - power(-25), 0x0400}, {below(power(-14) - power(-25)), 0x03ff}, {5e-324, 0}, {-5e-324, 0x8000},
		{1.00048828125, 0x3c00}, {1.0004882812500002, 0x3c01}, {1.00146484375, 0x3c02}, {below(1.00146484375), 0x3c01}, {below(2), 0x4000},
	}
	for _, r := range rows {
		if b := To16(r.x); b != r.b {
			t.Errorf("To16(%v) is %04x, want %04x", r.x, b, r.b)
		}
	}
	for _, x := range nans() {
		if b := To16(x); b != 0x7e00 {
			t.Errorf("To16 of the NaN %016x is %04x", math.Float64bits(x), b)
		}
	}
}

// P2.1
func TestFrom16(t *testing.T) {
	for i := range 1 << 16 {
		b := uint16(i)
		if want := byParts(uint64(b), 5, 10); math.Float64bits(From16(b)) != want {
			t.Errorf("From16(%04x) is %v, want the bits %016x", b, From16(b), want)
		}
	}
}

// byParts: the bits of the float that a row of sign, exponent and fraction is, as the chapter's words say it.
func byParts(b uint64, exponent, fraction uint) uint64 {
	e := int(b >> fraction & (1<<exponent - 1))
	f := float64(b & (1<<fraction - 1))
	ends := 1<<exponent - 1
	low := 2 - (1<<(exponent-1) + int(fraction)) // the exponent of the least one above 0
	var x float64
	switch {
	case e == ends && f != 0:
		return quiet
	case e == ends:
		x = inf()
	case e == 0:
		x = math.Ldexp(f, low)
	default:
		x = math.Ldexp(f+float64(uint64(1)<<fraction), low+e-1)
	}
	return math.Float64bits(x) | b>>(exponent+fraction)<<63
}

// patterns32: rows of 32 bits: all exponents with the least and greatest fractions, and scattered ones; both signs.
func patterns32() []uint32 {
	var out []uint32
	for e := range uint32(256) {
		for _, f := range []uint32{0, 1, 2, 3, 1 << 22, 1<<22 - 1, 1<<23 - 2, 1<<23 - 1} {
			out = append(out, e<<23|f, e<<23|f|1<<31)
		}
	}
	for s := range 23 {
		out = append(out, 1<<s, 1<<s|1<<31)
	}
	for _, b := range scattered(4000) {
		out = append(out, uint32(b), uint32(b>>32))
	}
	return out
}

// P2.2
func TestThereAndBack(t *testing.T) {
	for i := range 1 << 16 {
		b := uint16(i)
		if back := To16(From16(b)); back != b && b&0x7fff <= 0x7c00 {
			t.Errorf("To16(From16(%04x)) is %04x", b, back)
		}
	}
	for _, b := range patterns32() {
		if back := To32(From32(b)); back != b && b&0x7fffffff <= 0x7f800000 {
			t.Errorf("To32(From32(%08x)) is %08x", b, back)
		}
	}
	for _, i := range ints() {
		if i < -1<<53 || i > 1<<53 {
			continue
		}
		if n, ok := Round(FromInt(i)); n != i || !ok {
			t.Errorf("Round(FromInt(%d)) is %d, %v", i, n, ok)
		}
	}
}

// small: the magnitude of a row of bits without its sign, the power of 2 behind the greatest finite one standing for the infinity.
func small(b, infinite uint64, exponent, fraction uint) *big.Rat {
	if b == infinite {
		return exact(power(1 << (exponent - 1)))
	}
	return exact(math.Float64frombits(byParts(b, exponent, fraction)))
}

// checkNearest: no other one is nearer to x than b, and of two as near ones b has the last bit 0. The nearest
// one's neighbours are enough, as they stand in the order of their bits.
func checkNearest(t *testing.T, x float64, b uint64, exponent, fraction uint) {
	t.Helper()
	sign := uint64(1) << (exponent + fraction)
	infinite := (uint64(1)<<exponent - 1) << fraction
	if math.Signbit(x) != (b&sign != 0) {
		t.Errorf("%v as %x: the sign", x, b)
	}
	b &^= sign
	if b > infinite {
		t.Fatalf("%v as %x: a NaN", x, b)
	}
	m := exact(math.Abs(x))
	away := func(c uint64) *big.Rat {
		d := new(big.Rat).Sub(m, small(c, infinite, exponent, fraction))
		return d.Abs(d)
	}
	if b == infinite && m.Cmp(small(infinite, infinite, exponent, fraction)) >= 0 {
		return
	}
	for _, c := range []uint64{b - 1, b + 1} {
		if c > infinite { // below nought or past the infinity there is none
			continue
		}
		order := away(c).Cmp(away(b))
		if order < 0 || order == 0 && b&1 == 1 {
			t.Errorf("%v as %x: %x is nearer, or as near and even", x, b, c)
		}
	}
}

// P2.3
func TestNearest(t *testing.T) {
	for _, x := range samples() {
		if finite(x) {
			checkNearest(t, x, uint64(To32(x)), 8, 23)
			checkNearest(t, x, uint64(To16(x)), 5, 10)
		}
	}
	twice := To16(From32(To32(1.0004882812500002)))
	if at := To16(1.0004882812500002); twice != 0x3c00 || at != 0x3c01 {
		t.Errorf("rounded twice %04x, at once %04x", twice, at)
	}
}

// P2.3: at the middle of each two neighbours, and at the floats beside the middle.
func TestMiddles(t *testing.T) {
	for i := range 0x7c00 {
		b := uint16(i)
		low, high := math.Float64frombits(byParts(uint64(b), 5, 10)), 65536.0
		if b+1 < 0x7c00 {
			high = math.Float64frombits(byParts(uint64(b+1), 5, 10))
		}
		middle := 0.5*low + 0.5*high
		even := b + b&1
		for _, r := range []struct {
			x    float64
			want uint16
		}{{below(middle), b}, {middle, even}, {above(middle), b + 1}} {
			if To16(r.x) != r.want || To16(-r.x) != r.want|0x8000 {
				t.Errorf("To16(%v) is %04x, of the opposite %04x, want %04x", r.x, To16(r.x), To16(-r.x), r.want)
			}
		}
	}
	for _, b := range patterns32() {
		b &= 0x7fffffff
		if b >= 0x7f7fffff {
			continue
		}
		low := math.Float64frombits(byParts(uint64(b), 8, 23))
		high := math.Float64frombits(byParts(uint64(b+1), 8, 23))
		middle := 0.5*low + 0.5*high
		if To32(below(middle)) != b || To32(middle) != b+b&1 || To32(above(middle)) != b+1 {
			t.Errorf("To32 about the middle of %08x and the next: %08x, %08x, %08x", b, To32(below(middle)), To32(middle), To32(above(middle)))
		}
	}
}

// P2.4
func TestOrder(t *testing.T) {
	xs := samples()
	slices.Sort(xs)
	var wholeBelow, floorBelow *int64
	for i, y := range xs {
		x := xs[max(i-1, 0)]
		for _, m := range mosts() {
			if Clamp(x, m) > Clamp(y, m) {
				t.Errorf("Clamp of %v, %v and most %d", x, y, m)
			}
		}
		if From32(To32(x)) > From32(To32(y)) || From16(To16(x)) > From16(To16(y)) {
			t.Errorf("%v and %v: in 32 bits %v, %v, in 16 bits %v, %v", x, y, From32(To32(x)), From32(To32(y)), From16(To16(x)), From16(To16(y)))
		}
		wholeBelow = notAbove(t, "Round", y, wholeBelow, Round)
		floorBelow = notAbove(t, "Floor", y, floorBelow, Floor)
	}
	if wholeBelow == nil || floorBelow == nil {
		t.Error("no float as a whole number")
	}
}

// notAbove: the whole number of y, after it was held against that of the floats below it; those that have none are passed over.
func notAbove(t *testing.T, name string, y float64, last *int64, call func(float64) (int64, bool)) *int64 {
	n, ok := call(y)
	if !ok {
		return last
	}
	if last != nil && *last > n {
		t.Errorf("%s(%v) is %d, but %d of a lesser float", name, y, n, *last)
	}
	return &n
}

// P2.5
func TestOpposite(t *testing.T) {
	for _, x := range samples() {
		n, ok := Round(x)
		o, also := Round(-x)
		if ok && also && o != -n {
			t.Errorf("Round of %v is %d, of the opposite %d", x, n, o)
		}
		for _, m := range mosts() {
			if Clamp(-x, m) != -Clamp(x, m) {
				t.Errorf("Clamp(%v, %d) is %d, of the opposite %d", x, m, Clamp(x, m), Clamp(-x, m))
			}
		}
		if To32(x)^To32(-x) != 0x80000000 || To16(x)^To16(-x) != 0x8000 {
			t.Errorf("%v: To32 %08x, %08x, To16 %04x, %04x", x, To32(x), To32(-x), To16(x), To16(-x))
		}
	}
	if _, also := Round(0x1p63); also {
		t.Error("the opposite of -2^63 is a number of int64")
	}
}
