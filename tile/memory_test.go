package tile

import (
	"bytes"
	"fmt"
	"slices"
	"sync"
	"testing"

	"tarn/api"
	"tarn/state"
)

// roomy: the list with spare room behind it that isn't empty.
func roomy[T any](list []T) []T { return append(slices.Clone(list), list...)[:len(list)] }

func whole[T any](list []T) []T { return list[:cap(list)] }

// spoil the list and its spare room.
func spoil[T any](list []T, by T) {
	room := whole(list)
	for k := range room {
		room[k] = by
	}
}

func spoiled[T comparable](list []T, by T) bool {
	return !slices.ContainsFunc(whole(list), func(x T) bool { return x != by })
}

func roomySea(s api.Sea) api.Sea {
	s.Bed, s.Water, s.Tracer, s.Speed = roomy(s.Bed), roomy(s.Water), roomy(s.Tracer), roomy(s.Speed)
	return s
}

// wholeSea: a sea with the spare room of its lists.
func wholeSea(s api.Sea) api.Sea {
	s.Bed, s.Water, s.Tracer, s.Speed = whole(s.Bed), whole(s.Water), whole(s.Tracer), whole(s.Speed)
	return s
}

func spoilSea(s api.Sea) {
	spoil(s.Bed, -5)
	spoil(s.Water, -6)
	spoil(s.Tracer, -7)
	spoil(s.Speed, -8)
}

func sameTiles(a, b []api.Tile) bool { return slices.EqualFunc(a, b, same) }

func copiedTiles(list []api.Tile) []api.Tile {
	var out []api.Tile
	for _, x := range list {
		out = append(out, copied(x))
	}
	return out
}

// P24.3: Tiles leaves the sea as it is, and keeps nothing of it.
func TestSeaStays(t *testing.T) {
	pick := newPicker()
	for _, side := range []int{1, 2, 5} {
		s := roomySea(pick.sea(side))
		before := state.Copy(wholeSea(s))
		list, _ := Tiles(side, s)
		again, _ := Tiles(side, s)
		want := copiedTiles(list)
		if !state.Same(wholeSea(s), before) {
			t.Fatalf("side %d: the sea has changed", side)
		}
		spoilSea(s)
		spoilTiles(again)
		if !sameTiles(list, want) {
			t.Errorf("side %d: the tiles hang on the sea, or on those of another call", side)
		}
	}
}

func spoilTiles(list []api.Tile) {
	for k := range list {
		spoil(list[k].Cells, uint32(k+77))
	}
	spoil(list, api.Tile{Face: -1})
}

// P24.3: no two tiles of an answer share memory, spare room too; the list itself is new as well.
func TestTilesLieApart(t *testing.T) {
	pick := newPicker()
	for _, side := range []int{1, 2, 7, 32} {
		list, _ := Tiles(side, pick.sea(side))
		other, _ := Tiles(side, dry(side))
		for k := range list {
			spoil(list[k].Cells, uint32(k+1))
		}
		for k := range list {
			if !spoiled(list[k].Cells, uint32(k+1)) {
				t.Errorf("side %d: tile %d shares memory", side, k)
			}
		}
		spoil(list, api.Tile{Face: -1})
		for k, x := range other {
			if !same(x, tileOf(k, make([]uint32, side*side)...)) {
				t.Errorf("side %d: tile %d of another call has changed", side, k)
			}
		}
	}
}

// P24.3: what Tiles refuses stays, too.
func TestRefusedSeaStays(t *testing.T) {
	for _, x := range seaFaults() {
		s := sound()
		x.make(&s)
		s = roomySea(s)
		before := state.Copy(wholeSea(s))
		for _, side := range []int{0, 1, 2} {
			if _, errno := Tiles(side, s); errno == api.OK {
				t.Errorf("%s is taken", x.what)
			}
		}
		if !state.Same(wholeSea(s), before) {
			t.Errorf("%s: the sea has changed", x.what)
		}
	}
}

// P24.3: Encode leaves the tile as it is, refused or not, and keeps nothing of it.
func TestTileStays(t *testing.T) {
	pick := newPicker()
	tiles := []api.Tile{tileOf(7, one), tileOf(1, one, one), tileOf(1, 0x80000000), {Least: 1, Cells: []uint32{0}}}
	for n := 1; n <= 8; n++ {
		tiles = append(tiles, pick.tile(n))
	}
	for k, x := range tiles {
		x.Cells = roomy(x.Cells)
		before := slices.Clone(whole(x.Cells))
		b, errno := Encode(x)
		again, _ := Encode(x)
		if !slices.Equal(whole(x.Cells), before) {
			t.Errorf("tile %d has changed", k)
		}
		if errno != api.OK {
			continue
		}
		want := bytesOf(x, sideFor(len(x.Cells)))
		spoil(x.Cells, 5)
		spoil(again, 6)
		if !bytes.Equal(b, want) {
			t.Errorf("tile %d: its bytes hang on it, or on those of another call", k)
		}
	}
}

// P24.3: Decode leaves the bytes as they are, refused or not, and keeps nothing of them.
func TestBytesStay(t *testing.T) {
	pick := newPicker()
	rows := [][]byte{nil, make([]byte, 14), []byte(bytesOfFour + "more"), bytesOf(tileOf(2, 0x80000000), 1), bytesOf(api.Tile{Least: 1, Cells: []uint32{0}}, 1)}
	for n := 1; n <= 8; n++ {
		rows = append(rows, bytesOf(pick.tile(n), n))
	}
	for k, row := range rows {
		b := roomy(row)
		before := slices.Clone(whole(b))
		x, errno := Decode(b)
		again, _ := Decode(b)
		if !bytes.Equal(whole(b), before) {
			t.Errorf("row %d has changed", k)
		}
		if errno != api.OK {
			continue
		}
		want := copied(x)
		spoil(b, 0xee)
		spoil(again.Cells, 6)
		if !same(x, want) || !bytes.Equal(bytesOf(x, int(row[5])), row) {
			t.Errorf("row %d: its tile hangs on it, or on that of another call", k)
		}
	}
}

// Calls at the same time answer what they answer alone.
func TestCallsAtTheSameTime(t *testing.T) {
	pick := newPicker()
	s := pick.sea(6)
	want := tilesOf(t, 6, s)
	var all sync.WaitGroup
	faults := make([]string, 32)
	for k := range faults {
		all.Go(func() {
			list, _ := Tiles(6, s)
			for face, x := range list {
				b, _ := Encode(want[face])
				if back, errno := Decode(b); errno != api.OK || !same(back, x) || !same(x, want[face]) {
					faults[k] = fmt.Sprint("face ", face, ": ", back, ", ", errno)
				}
			}
			spoilTiles(list)
		})
	}
	all.Wait()
	for k, fault := range faults {
		if fault != "" {
			t.Errorf("call %d: %s", k, fault)
		}
	}
}
