package save

import (
	"bytes"
	"encoding/binary"
	"fmt"
	"math"
	"slices"
	"testing"

	"tarn/api"
	"tarn/state"
)

// The chapter's third example.
func TestWrongBytes(t *testing.T) {
	b := encoded(t, "side 1", 1, empty(1))
	refused(t, "20 bytes", make([]byte, 20), api.ErrShort)
	refused(t, "21 bytes 00", make([]byte, 21), api.ErrForm)
	refused(t, "the side 33", []byte("TARN\x21"+string(make([]byte, 16))), api.ErrForm)
	refused(t, "the side 1", []byte("TARN\x01"+string(make([]byte, 16))), api.ErrShort)
	refused(t, "one more", append(bytes.Clone(b), 0), api.ErrForm)
	b[268] ^= 1
	refused(t, "the last byte turned", b, api.ErrSum)
}

// P25.1: bytes of every small length, of a sea, of noughts and of others.
func TestSmallLengths(t *testing.T) {
	rows := [][]byte{bytesOf(1, byHand()), make([]byte, 41), bytes.Repeat([]byte{0xff}, 41), append([]byte("tarn"), bytesOf(1, byHand())[4:]...)}
	for _, side := range []byte{0, 1, 2, 32, 33, 255} {
		rows = append(rows, []byte("TARN"+string([]byte{side})+string(make([]byte, 36))))
	}
	for k, row := range rows {
		form := string(row[:4]) != "TARN" || row[4] < 1 || row[4] > 32
		for n := range 41 {
			want := api.ErrShort
			if form && n > 20 {
				want = api.ErrForm
			}
			refused(t, fmt.Sprint(n, " bytes of row ", k), row[:n], want)
			if n >= 8 {
				refused(t, fmt.Sprint(n, " bytes of row ", k, ", the last their sum"), again(row[:n]), want)
			}
		}
	}
	refused(t, "nil", nil, api.ErrShort)
	refused(t, "no bytes", []byte{}, api.ErrShort)
}

// P25.1, P25.3: some fewer and some more than a sea of each side has, with the sum as it was, and with the right one.
func TestLengthsOfSides(t *testing.T) {
	pick := newPicker()
	for side := 1; side <= api.MaxSide; side++ {
		b := encoded(t, side, side, pick.sea(side))
		for _, by := range []int{1, 2, 7, 8, 9, 40, 48} {
			fewer, more := b[:len(b)-by], append(bytes.Clone(b), make([]byte, by)...)
			refused(t, fmt.Sprint("side ", side, " but ", by), fewer, api.ErrShort)
			refused(t, fmt.Sprint("side ", side, " but ", by, ", the last their sum"), again(fewer), api.ErrShort)
			refused(t, fmt.Sprint("side ", side, " and ", by), more, api.ErrForm)
			refused(t, fmt.Sprint("side ", side, " and ", by, ", the last their sum"), again(more), api.ErrForm)
		}
		refused(t, fmt.Sprint("side ", side, " twice"), append(bytes.Clone(b), b...), api.ErrForm)
	}
}

// P25.3: cut short anywhere, and with any bytes behind.
func TestCuts(t *testing.T) {
	b := encoded(t, "side 1", 1, byHand())
	for n := range b {
		refused(t, fmt.Sprint(n, " bytes"), b[:n], api.ErrShort)
		refused(t, fmt.Sprint(n, " bytes behind"), append(bytes.Clone(b), b[:n+1]...), api.ErrForm)
		refused(t, fmt.Sprint(n, " left out ahead"), b[n+1:], modelErrno(b[n+1:]))
	}
	for x := range 256 {
		refused(t, fmt.Sprint("one byte behind: ", x), append(bytes.Clone(b), byte(x)), api.ErrForm)
	}
	for _, extra := range [][]byte{bytes.Repeat([]byte{0}, 720), bytes.Repeat([]byte{0xff}, 721), make([]byte, 1<<20)} {
		refused(t, fmt.Sprint(len(extra), " bytes behind"), append(bytes.Clone(b), extra...), api.ErrForm)
	}
}

func modelErrno(b []byte) api.Errno {
	_, _, errno := modelDecode(b)
	return errno
}

// P25.1, P25.3: each byte of the head changed to each other value, with the sum as it was, and with the right one.
func TestHead(t *testing.T) {
	b := encoded(t, "side 1", 1, byHand())
	for at := range 21 {
		for x := range 256 {
			if b[at] == byte(x) {
				continue
			}
			c := bytes.Clone(b)
			c[at] = byte(x)
			want, right := api.ErrSum, modelErrno(again(c))
			switch {
			case at < 4:
				want, right = api.ErrForm, api.ErrForm
			case at == 4 && (x == 0 || x > 32):
				want, right = api.ErrForm, api.ErrForm
			case at == 4:
				want, right = api.ErrShort, api.ErrShort
			case at == 12 && x >= 0x40: // 0x4002030405060708 and more
				right = api.ErrArg
			case at == 20 && x > 0:
				right = api.ErrSky
			}
			refused(t, fmt.Sprintf("byte %d is %x", at, x), c, want)
			n, s, errno := decoded(t, fmt.Sprintf("byte %d is %x, the sum is right", at, x), again(c))
			if errno != right || errno == api.OK && (n != 1 || state.Same(s, byHand())) {
				t.Fatalf("byte %d is %x, the sum is right: %d, want %d", at, x, errno, right)
			}
		}
	}
}

// P25.1: a byte for the side that tells of another side, or of none.
func TestSideByte(t *testing.T) {
	for _, side := range []int{1, 2, 5, 32} {
		b := encoded(t, side, side, empty(side))
		for x := range 256 {
			b[4] = byte(x)
			want := api.ErrForm
			if x > side && x <= 32 {
				want = api.ErrShort
			}
			if x != side {
				refused(t, fmt.Sprint("side ", side, ", the byte ", x), b, want)
				refused(t, fmt.Sprint("side ", side, ", the byte ", x, ", the sum is right"), again(b), want)
			}
		}
	}
}

// P25.1, P25.3: each bit turned. With the right sum it is another sea, or one that can't be.
func TestEachBit(t *testing.T) {
	told := map[api.Errno]int{}
	for k, s := range []api.Sea{byHand(), empty(1), sound()} {
		b := encoded(t, k, 1, s)
		for at := range b {
			for bit := range 8 {
				c := bytes.Clone(b)
				c[at] ^= 1 << bit
				what := fmt.Sprint("sea ", k, ", bit ", bit, " of byte ", at)
				if at >= 5 {
					refused(t, what, c, api.ErrSum)
				} else if _, _, errno := decoded(t, what, c); errno == api.OK {
					t.Fatalf("%s is taken", what)
				}
				if at >= 261 {
					continue
				}
				_, other, errno := decoded(t, what+", the sum is right", again(c))
				if errno == api.OK && state.Same(other, s) {
					t.Fatalf("%s doesn't show", what)
				}
				told[errno]++
			}
		}
	}
	for _, errno := range []api.Errno{api.OK, api.ErrForm, api.ErrShort, api.ErrBed, api.ErrSky, api.ErrWater, api.ErrTracer, api.ErrSpeed, api.ErrArg} {
		if told[errno] == 0 {
			t.Errorf("error %d was never told", errno)
		}
	}
}

// P25.1, by hand: each kind of number turned in one bit, with the right sum.
func TestTurnedBits(t *testing.T) {
	for _, x := range []struct {
		what   string
		at     int
		by     byte
		errno  api.Errno
		change func(s *api.Sea)
	}{
		{"Step's lowest", 5, 1, api.OK, func(s *api.Sea) { s.Step = 1 }},
		{"Step's greatest", 12, 0x40, api.OK, func(s *api.Sea) { s.Step = 1 << 62 }},
		{"Step's sign", 12, 0x80, api.ErrArg, nil},
		{"Sky's lowest", 13, 1, api.OK, func(s *api.Sea) { s.Sky = 1 }},
		{"Sky's greatest", 19, 0x10, api.OK, func(s *api.Sea) { s.Sky = 1 << 52 }},
		{"Sky's next", 19, 0x20, api.ErrSky, nil},
		{"Sky's sign", 20, 0x80, api.ErrSky, nil},
		{"the first bed's lowest", 21, 1, api.OK, func(s *api.Sea) { s.Bed[0] = least }},
		{"the last bed's sign", 68, 0x80, api.ErrBed, nil},
		{"the last bed's exponent", 68, 0x40, api.OK, func(s *api.Sea) { s.Bed[5] = 2 }},
		{"the first water's lowest", 69, 1, api.OK, func(s *api.Sea) { s.Water[0] = 1 }},
		{"the last water's greatest", 115, 0x10, api.OK, func(s *api.Sea) { s.Water[5] = 1 << 52 }},
		{"the last water's sign", 116, 0x80, api.ErrWater, nil},
		{"the first tracer's lowest", 117, 1, api.OK, func(s *api.Sea) { s.Tracer[0] = 1 }},
		{"the last tracer's greatest", 163, 0x10, api.OK, func(s *api.Sea) { s.Tracer[5] = 1 << 52 }},
		{"the last tracer's next", 163, 0x20, api.ErrTracer, nil},
		{"the first speed's lowest", 165, 1, api.OK, func(s *api.Sea) { s.Speed[0] = least }},
		{"the last speed's exponent", 260, 0x40, api.OK, func(s *api.Sea) { s.Speed[11] = 2 }},
		{"the last speed's sign", 260, 0x80, api.ErrSpeed, nil},
	} {
		b := encoded(t, "noughts", 1, empty(1))
		b[x.at] ^= x.by
		refused(t, x.what, b, api.ErrSum)
		b = again(b)
		if x.errno != api.OK {
			refused(t, x.what, b, x.errno)
			continue
		}
		want := empty(1)
		x.change(&want)
		if side, s, errno := Decode(b); errno != api.OK || side != 1 || !state.Same(s, want) {
			t.Errorf("%s: side %d, %v, %d", x.what, side, s, errno)
		}
	}
}

// P25.3: the last eight bytes, each changed to each other value; all of them, turned round, and as noughts.
func TestWrongSums(t *testing.T) {
	for k, s := range []api.Sea{byHand(), empty(1)} {
		b := encoded(t, k, 1, s)
		for at := len(b) - 8; at < len(b); at++ {
			for x := 1; x < 256; x++ {
				c := bytes.Clone(b)
				c[at] ^= byte(x)
				refused(t, fmt.Sprintf("sea %d, byte %d by %x", k, at, x), c, api.ErrSum)
			}
		}
		turned := bytes.Clone(b)
		slices.Reverse(turned[261:])
		refused(t, "the sum turned round", turned, api.ErrSum)
		for _, sum := range []uint64{0, math.MaxUint64, firstSum, modelSum(b[:261]) + 1, ^modelSum(b[:261]), modelSum(b[:260]), modelSum(b), modelSum(b[21:261]), modelSum(b[4:261])} {
			refused(t, sum, binary.LittleEndian.AppendUint64(bytes.Clone(b[:261]), sum), api.ErrSum)
		}
	}
}

// P25.3: seas of several sides with one byte turned; the same two bytes exchanged.
func TestTurnedBytes(t *testing.T) {
	pick := newPicker()
	for _, side := range []int{1, 2, 3, 7, 32} {
		b := encoded(t, side, side, pick.sea(side))
		for range 200 {
			at, x := 5+pick.below(len(b)-5), byte(1+pick.below(255))
			b[at] ^= x
			refused(t, fmt.Sprintf("side %d, byte %d by %x", side, at, x), b, api.ErrSum)
			b[at] ^= x
			other := 5 + pick.below(len(b)-5)
			b[at], b[other] = b[other], b[at]
			decoded(t, fmt.Sprintf("side %d, bytes %d and %d exchanged", side, at, other), b)
			b[at], b[other] = b[other], b[at]
		}
		decoded(t, side, b)
	}
}

// P25.1: of seas that can't be, written as bytes with the right sum, Check's error is told, and the first one of two.
func TestBytesOfSeasThatCantBe(t *testing.T) {
	faults := numberFaults()
	for k, x := range faults {
		s := sound()
		x.make(&s)
		b := bytesOf(1, s)
		refused(t, x.what, b, x.errno)
		for _, later := range faults[k+1:] {
			if later.errno == x.errno {
				continue
			}
			s := sound()
			x.make(&s)
			later.make(&s)
			refused(t, x.what+" with "+later.what, bytesOf(1, s), x.errno)
		}
		b[268]++
		refused(t, x.what+" with a wrong sum", b, api.ErrSum)
		refused(t, x.what+" with a byte behind", summed(bytesOf(1, s)), api.ErrForm)
		refused(t, x.what+" with a byte less", b[:268], api.ErrShort)
		refused(t, x.what+" with another mark", append([]byte("TURN"), b[4:]...), api.ErrForm)
	}
}

// Errors in their order: what is told first hides what comes behind it.
func TestFirstError(t *testing.T) {
	s := empty(1)
	s.Bed[3], s.Step = nan, -1
	bad := ahead(1, s)
	with := func(at int, x byte, b []byte) []byte {
		c := bytes.Clone(b)
		c[at] = x
		return c
	}
	for k, x := range []struct {
		b    []byte
		want api.Errno
	}{
		{with(0, 't', bad[:20]), api.ErrShort},
		{with(4, 0, bad[:20]), api.ErrShort},
		{with(0, 't', bad[:21]), api.ErrForm},
		{with(4, 33, bad[:21]), api.ErrForm},
		{with(3, 'n', with(4, 2, bad)), api.ErrForm},
		{with(4, 0, bad), api.ErrForm},
		{with(4, 32, bad), api.ErrShort},
		{bad, api.ErrShort},
		{append(bytes.Clone(bad), 1, 2, 3, 4, 5, 6, 7), api.ErrShort},
		{append(bytes.Clone(bad), 1, 2, 3, 4, 5, 6, 7, 8), api.ErrSum},
		{append(bytes.Clone(bad), 1, 2, 3, 4, 5, 6, 7, 8, 9), api.ErrForm},
		{append(summed(bad), 0), api.ErrForm},
		{summed(bad), api.ErrBed},
		{summed(with(68, 0x40, bad)), api.ErrBed},
	} {
		refused(t, k, x.b, x.want)
	}
}

// Any bytes: Decode answers as the model does, and what it takes goes there again.
func TestAnyBytes(t *testing.T) {
	pick := newPicker()
	told := map[api.Errno]int{}
	for range 30000 {
		side := 1 + pick.below(3)
		b := bytesOf(side, pick.sea(side))
		for range pick.below(3) {
			b[pick.below(len(b))] = pickOf(pick, 0, 1, 2, 3, 0x7f, 0x80, 0xff, byte(pick.next()>>20))
		}
		switch pick.below(12) {
		case 0:
			b = b[:pick.below(len(b)+1)]
		case 1:
			b = append(b, make([]byte, pick.below(5))...)
		}
		if len(b) > 8 && pick.below(4) > 0 {
			b = again(b)
		}
		side, s, errno := decoded(t, "any bytes", b)
		told[errno]++
		if errno != api.OK {
			continue
		}
		if more, errno := Encode(side, s); errno != api.OK || !bytes.Equal(more, b) {
			t.Fatalf("side %d, error %d, %x, want %x", side, errno, more, b)
		}
	}
	for _, errno := range []api.Errno{api.OK, api.ErrShort, api.ErrForm, api.ErrSum, api.ErrBed, api.ErrWater, api.ErrTracer, api.ErrSpeed} {
		if told[errno] < 20 {
			t.Errorf("error %d was told %d times alone", errno, told[errno])
		}
	}
}

// What isn't the reader's own isn't taken for a fault of the bytes.
func TestOtherPanics(t *testing.T) {
	if errno := told(api.ErrSum); errno != api.ErrSum {
		t.Error(errno)
	}
	for _, x := range []any{"another", 32, int64(32)} {
		func() {
			defer func() {
				if got := recover(); got != x {
					t.Errorf("%v is hidden by %v", x, got)
				}
			}()
			told(x)
		}()
	}
}
