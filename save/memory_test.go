package save

import (
	"bytes"
	"fmt"
	"slices"
	"sync"
	"testing"

	"tarn/api"
	"tarn/state"
)

// roomy: the list with spare room behind it that isn't empty.
func roomy[T any](list []T) []T { return append(slices.Clone(list), list...)[:len(list)] }

func whole[T any](list []T) []T { return list[:cap(list)] }

// spoil the list and its spare room.
func spoil[T any](list []T, by T) {
	room := whole(list)
	for k := range room {
		room[k] = by
	}
}

func spoiled[T comparable](list []T, by T) bool {
	return !slices.ContainsFunc(whole(list), func(x T) bool { return x != by })
}

func roomySea(s api.Sea) api.Sea {
	s.Bed, s.Water, s.Tracer, s.Speed = roomy(s.Bed), roomy(s.Water), roomy(s.Tracer), roomy(s.Speed)
	return s
}

// wholeSea: a sea with the spare room of its lists.
func wholeSea(s api.Sea) api.Sea {
	s.Bed, s.Water, s.Tracer, s.Speed = whole(s.Bed), whole(s.Water), whole(s.Tracer), whole(s.Speed)
	return s
}

// spoilSea: each list by another number.
func spoilSea(s api.Sea) {
	spoil(s.Bed, -5)
	spoil(s.Water, -6)
	spoil(s.Tracer, -7)
	spoil(s.Speed, -8)
}

// apart: whether no two lists of an answer share memory, spare room too.
func apart(s api.Sea) bool {
	spoilSea(s)
	return spoiled(s.Bed, -5) && spoiled(s.Water, -6) && spoiled(s.Tracer, -7) && spoiled(s.Speed, -8)
}

// P25.5: Encode leaves the sea as it is, and keeps nothing of it, nor of another answer.
func TestSeaStays(t *testing.T) {
	pick := newPicker()
	for _, side := range []int{1, 2, 5, 32} {
		given := roomySea(pick.sea(side))
		before := state.Copy(wholeSea(given))
		want := bytesOf(side, given)
		b, _ := Encode(side, given)
		other, _ := Encode(side, given)
		if !state.Same(wholeSea(given), before) {
			t.Fatalf("side %d: the sea has changed", side)
		}
		spoil(other, 0xee)
		spoilSea(given)
		if !bytes.Equal(b, want) {
			t.Errorf("side %d: the bytes hang on the sea, or on those of another call", side)
		}
		spoil(b, 0xdd)
		if !apart(given) {
			t.Errorf("side %d: the sea hangs on its bytes", side)
		}
	}
}

// P25.5: what Encode refuses stays, too.
func TestRefusedSeaStays(t *testing.T) {
	for _, x := range append(sizeFaults(), numberFaults()...) {
		s := sound()
		x.make(&s)
		s = roomySea(s)
		before := state.Copy(wholeSea(s))
		for _, side := range []int{0, 1, 3} {
			if _, errno := Encode(side, s); errno == api.OK {
				t.Errorf("%s is taken", x.what)
			}
		}
		if !state.Same(wholeSea(s), before) {
			t.Errorf("%s: the sea has changed", x.what)
		}
	}
}

// rows of bytes that Decode takes, and of each error some that it refuses.
func rows() [][]byte {
	pick := newPicker()
	out := [][]byte{nil, make([]byte, 20), make([]byte, 21), []byte("TARN\x01" + string(make([]byte, 16)))}
	for _, side := range []int{1, 2, 3, 8} {
		b := bytesOf(side, pick.sea(side))
		turned := bytes.Clone(b)
		turned[len(b)/2] ^= 0x55
		out = append(out, b, b[:len(b)-1], append(bytes.Clone(b), 7), turned)
	}
	for _, x := range numberFaults() {
		s := sound()
		x.make(&s)
		out = append(out, bytesOf(1, s))
	}
	return out
}

// P25.5: Decode and Sum leave the bytes as they are, refused or not, and keep nothing of them, nor of another answer; no
// two lists of one answer share memory.
func TestBytesStay(t *testing.T) {
	taken := 0
	for k, row := range rows() {
		b := roomy(row)
		before := slices.Clone(whole(b))
		side, s, errno := Decode(b)
		_, other, _ := Decode(b)
		Sum(b)
		if !bytes.Equal(whole(b), before) {
			t.Errorf("row %d has changed", k)
		}
		if errno != api.OK {
			continue
		}
		taken++
		want := state.Copy(s)
		spoil(b, 0xee)
		if !apart(other) {
			t.Errorf("row %d: two lists of the answer share memory", k)
		}
		if !state.Same(s, want) || !bytes.Equal(bytesOf(side, s), row) {
			t.Errorf("row %d: its sea hangs on it, or on that of another call", k)
		}
		spoilSea(s)
		if !spoiled(b, 0xee) {
			t.Errorf("row %d hangs on its sea", k)
		}
	}
	if taken != 4 {
		t.Errorf("%d rows were taken", taken)
	}
}

// Nothing is kept from call to call: what was refused ahead of it doesn't show.
func TestCallsStandAlone(t *testing.T) {
	b := bytesOf(1, byHand())
	for k, row := range rows() {
		Decode(row)
		Sum(row)
		if side, s, errno := Decode(b); errno != api.OK || side != 1 || !state.Same(s, byHand()) {
			t.Fatalf("behind row %d: side %d, error %d", k, side, errno)
		}
		if c, errno := Encode(1, byHand()); errno != api.OK || !bytes.Equal(c, b) {
			t.Fatalf("behind row %d: error %d", k, errno)
		}
	}
}

// Calls at the same time answer what they answer alone.
func TestCallsAtTheSameTime(t *testing.T) {
	s := newPicker().sea(6)
	want := bytesOf(6, s)
	wrong := bytes.Clone(want)
	wrong[100] ^= 1
	var all sync.WaitGroup
	faults := make([]string, 32)
	for k := range faults {
		all.Go(func() {
			b, errno := Encode(6, s)
			side, back, other := Decode(want)
			_, _, third := Decode(wrong)
			if errno != api.OK || other != api.OK || third != api.ErrSum || side != 6 || !bytes.Equal(b, want) || !state.Same(back, s) {
				faults[k] = fmt.Sprint(errno, ", ", other, ", ", third, ", side ", side)
			}
			spoil(b, byte(k))
			spoilSea(back)
		})
	}
	all.Wait()
	for k, fault := range faults {
		if fault != "" {
			t.Errorf("call %d: %s", k, fault)
		}
	}
}
