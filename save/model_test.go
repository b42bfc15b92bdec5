package save

import (
	"bytes"
	"encoding/binary"
	"hash/fnv"
	"testing"

	"tarn/api"
	"tarn/state"
)

// The model: bytes by the library's reader and writer of numbers and its sum of the same name, at places that are
// reckoned from the chapter's table. A sea's faults are layer 20's.

// header of a sea's bytes.
type header struct {
	Mark      [4]byte
	Side      uint8
	Step, Sky int64
}

// ahead: a sea's bytes but for the sum, whether it can be or not.
func ahead(side int, s api.Sea) []byte {
	var out bytes.Buffer
	binary.Write(&out, binary.LittleEndian, header{[4]byte{'T', 'A', 'R', 'N'}, uint8(side), int64(s.Step), s.Sky})
	for _, list := range []any{s.Bed, s.Water, s.Tracer, s.Speed} {
		binary.Write(&out, binary.LittleEndian, list)
	}
	return out.Bytes()
}

func modelSum(b []byte) uint64 {
	h := fnv.New64a()
	h.Write(b)
	return h.Sum64()
}

// summed: these bytes with their sum behind them.
func summed(b []byte) []byte {
	return binary.LittleEndian.AppendUint64(bytes.Clone(b), modelSum(b))
}

// bytesOf a sea, whether it can be or not.
func bytesOf(side int, s api.Sea) []byte { return summed(ahead(side, s)) }

// again: the bytes with the right sum in the place of theirs.
func again(b []byte) []byte { return summed(b[:len(b)-8]) }

func modelSize(side int) int { return 29 + 240*side*side }

// seaOf bytes that are as many as a sea of their side has.
func seaOf(b []byte) (int, api.Sea) {
	var h header
	from := bytes.NewReader(b)
	binary.Read(from, binary.LittleEndian, &h)
	s := empty(int(h.Side))
	s.Step, s.Sky = int(h.Step), h.Sky
	for _, list := range []any{s.Bed, s.Water, s.Tracer, s.Speed} {
		binary.Read(from, binary.LittleEndian, list)
	}
	return int(h.Side), s
}

// modelDecode: the errors as the chapter has them in a row.
func modelDecode(b []byte) (int, api.Sea, api.Errno) {
	if len(b) <= 20 {
		return 0, api.Sea{}, 31
	}
	if !bytes.HasPrefix(b, []byte("TARN")) || b[4]-1 >= 32 {
		return 0, api.Sea{}, 30
	}
	if more := len(b) - modelSize(int(b[4])); more < 0 {
		return 0, api.Sea{}, 31
	} else if more > 0 {
		return 0, api.Sea{}, 30
	}
	if !bytes.Equal(again(b), b) {
		return 0, api.Sea{}, 32
	}
	side, s := seaOf(b)
	if _, errno := state.Check(side, s); errno != api.OK {
		return 0, api.Sea{}, errno
	}
	return side, s, api.OK
}

// decoded: what Decode answers, which must be what the model does.
func decoded(t *testing.T, what any, b []byte) (int, api.Sea, api.Errno) {
	t.Helper()
	side, s, errno := Decode(b)
	n, want, e := modelDecode(b)
	if side != n || errno != e || !state.Same(s, want) {
		t.Fatalf("%v: side %d, error %d, %.300v; the model has side %d, error %d", what, side, errno, s, n, e)
	}
	return side, s, errno
}

// refused: Decode takes nothing of these bytes, and tells this error.
func refused(t *testing.T, what any, b []byte, want api.Errno) {
	t.Helper()
	if side, s, errno := decoded(t, what, b); errno != want || side != 0 || !state.Same(s, api.Sea{}) {
		t.Fatalf("%v: side %d, error %d, want %d", what, side, errno, want)
	}
}

// encoded: the bytes of a sea that can be, which must be the model's.
func encoded(t *testing.T, what any, side int, s api.Sea) []byte {
	t.Helper()
	b, errno := Encode(side, s)
	if errno != api.OK || !bytes.Equal(b, bytesOf(side, s)) {
		t.Fatalf("%v: error %d, %d bytes, want %d", what, errno, len(b), modelSize(side))
	}
	return b
}

// thereAndBack: a sea that can be through its bytes, and they through their sea.
func thereAndBack(t *testing.T, what any, side int, s api.Sea) []byte {
	t.Helper()
	b := encoded(t, what, side, s)
	n, back, errno := decoded(t, what, b)
	if errno != api.OK || n != side || !state.Same(back, s) {
		t.Fatalf("%v: back with side %d, error %d, %.300v", what, n, errno, back)
	}
	if more, errno := Encode(n, back); errno != api.OK || !bytes.Equal(more, b) {
		t.Fatalf("%v: there again with error %d", what, errno)
	}
	return b
}
