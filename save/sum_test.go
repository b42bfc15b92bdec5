package save

import (
	"bytes"
	"fmt"
	"math/big"
	"testing"
)

func sums(t *testing.T, what any, b []byte, want uint64) {
	t.Helper()
	if h := Sum(b); h != want {
		t.Errorf("%v: %x, want %x", what, h, want)
	}
}

// goneOn: the sum behind a byte more, over whole numbers of any size.
func goneOn(h uint64, x byte) uint64 {
	n := new(big.Int).SetUint64(h)
	n.Xor(n, big.NewInt(int64(x)))
	n.Mul(n, big.NewInt(1<<40+0x1b3))
	return n.Mod(n, new(big.Int).Lsh(big.NewInt(1), 64)).Uint64()
}

// goneBack: the sum ahead of a byte.
func goneBack(h uint64, x byte) uint64 {
	all := new(big.Int).Lsh(big.NewInt(1), 64)
	back := new(big.Int).ModInverse(big.NewInt(1<<40+0x1b3), all)
	n := back.Mul(back, new(big.Int).SetUint64(h))
	return n.Mod(n, all).Uint64() ^ uint64(x)
}

// P25.1, the chapter's second example, and other known sums.
func TestKnownSums(t *testing.T) {
	sums(t, "no bytes", nil, 14695981039346656037)
	sums(t, "empty", []byte{}, 14695981039346656037)
	sums(t, "spare room", []byte("abc")[:0], 14695981039346656037)
	for text, want := range map[string]uint64{
		"a":        0xaf63dc4c8601ec8c,
		"b":        0xaf63df4c8601f1a5,
		"fo":       0x08985907b541d342,
		"foobar":   0x85944171f73967e8,
		"hello":    0xa430d84680aabd0b,
		"\x00":     0xaf63bd4c8601b7df,
		"\x00\x00": 0x08328807b4eb6fed,
		"\xff":     0xaf64724c8602eb6e,
		"TARN":     0xee4f17fa6bbb4d56,
	} {
		sums(t, text, []byte(text), want)
	}
}

// P25.1: one byte of each value, and a second one behind each.
func TestOneByte(t *testing.T) {
	seen := map[uint64]bool{}
	for x := range 256 {
		h := goneOn(14695981039346656037, byte(x))
		sums(t, x, []byte{byte(x)}, h)
		seen[h] = true
		for y := range 256 {
			sums(t, fmt.Sprint(x, " ", y), []byte{byte(x), byte(y)}, goneOn(h, byte(y)))
		}
	}
	if len(seen) != 256 {
		t.Errorf("%d sums of 256 bytes", len(seen))
	}
}

// P25.1: long bytes, of each length around those that a machine might take at once.
func TestLongBytes(t *testing.T) {
	pick := newPicker()
	long := make([]byte, 1<<21)
	for k := range long {
		long[k] = byte(pick.next() >> 33)
	}
	for n := range 600 {
		sums(t, n, long[n:2*n], modelSum(long[n:2*n]))
	}
	for _, n := range []int{4095, 4096, 65536, 245781, 245789, 1 << 20, 1<<21 - 1, 1 << 21} {
		sums(t, n, long[:n], modelSum(long[:n]))
	}
	for _, x := range []byte{0, 1, 0x7f, 0x80, 0xff} {
		sums(t, x, bytes.Repeat([]byte{x}, 100000), modelSum(bytes.Repeat([]byte{x}, 100000)))
	}
}

// P25.4: the sum of two rows, one behind the other, goes on from that of the first; and going back from it leads there.
func TestGoingOn(t *testing.T) {
	pick := newPicker()
	row := func() []byte {
		b := make([]byte, pick.below(40))
		for k := range b {
			b[k] = pickOf(pick, 0, 0xff, byte(pick.next()>>30))
		}
		return b
	}
	for range 3000 {
		b, c := row(), row()
		h := Sum(b)
		for _, x := range c {
			h = goneOn(h, x)
		}
		both := append(bytes.Clone(b), c...)
		sums(t, "both", both, h)
		back := Sum(both)
		for k := range c {
			back = goneBack(back, c[len(c)-1-k])
		}
		if back != Sum(b) {
			t.Fatalf("%x and %x: back at %x, want %x", b, c, back, Sum(b))
		}
	}
}

// P25.4: of two unlike sums each byte makes two unlike ones, and so does each row of bytes.
func TestUnlikeStaysUnlike(t *testing.T) {
	pick := newPicker()
	var rows [][]byte
	for range 40 {
		b := make([]byte, 1+pick.below(20))
		for k := range b {
			b[k] = byte(pick.next() >> 30)
		}
		rows = append(rows, b)
	}
	for k, b := range rows {
		for _, c := range rows[:k] {
			if Sum(b) == Sum(c) {
				continue
			}
			for x := range 256 {
				if Sum(append(bytes.Clone(b), byte(x))) == Sum(append(bytes.Clone(c), byte(x))) {
					t.Fatalf("%x and %x with %x behind are alike", b, c, x)
				}
			}
			if Sum(append(bytes.Clone(b), rows[0]...)) == Sum(append(bytes.Clone(c), rows[0]...)) {
				t.Fatalf("%x and %x with a row behind are alike", b, c)
			}
		}
	}
}

// P25.4: one byte turned anywhere turns the sum.
func TestTurnedByteTurnsTheSum(t *testing.T) {
	b := []byte("a sea of shallow water on a sphere")
	h := Sum(b)
	for at := range b {
		for x := 1; x < 256; x++ {
			b[at] ^= byte(x)
			if Sum(b) == h {
				t.Errorf("byte %d by %x", at, x)
			}
			b[at] ^= byte(x)
		}
	}
}
