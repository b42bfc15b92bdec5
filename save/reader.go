package save

import (
	"math"

	"tarn/api"
	"tarn/state"
)

// reader of bytes, from the first on. It gives up at the first fault, from however deep: by a panic with the error, so
// that none of its functions has to hand an error on.
type reader struct{ rest []byte }

func giveUp(errno api.Errno) { panic(errno) }

// told: the error with which the reader gave up. Any other panic isn't its own, and isn't taken for a fault of the bytes.
func told(gaveUp any) api.Errno {
	errno, ok := gaveUp.(api.Errno)
	if !ok {
		panic(gaveUp)
	}
	return errno
}

// read: the side and the sea that these bytes are.
func read(b []byte) (int, api.Sea) {
	r := &reader{rest: b}
	side, s := r.head()
	s.Bed = take(r, cells(side), math.Float64frombits)
	s.Water = take(r, cells(side), quantaOf)
	s.Tracer = take(r, cells(side), quantaOf)
	s.Speed = take(r, edges(side), math.Float64frombits)
	r.foot(b)
	if _, errno := state.Check(side, s); errno != api.OK {
		giveUp(errno)
	}
	return side, s
}

// head: the side, and a sea with its Step and its Sky.
func (r *reader) head() (int, api.Sea) {
	b := &reader{rest: r.bytes(head)} // all of it first: too few bytes are told ahead of wrong ones
	if string(b.bytes(len(mark))) != mark {
		giveUp(api.ErrForm)
	}
	side := int(b.bytes(1)[0])
	if side < 1 || side > api.MaxSide {
		giveUp(api.ErrForm)
	}
	step, sky := b.word(), b.word()
	return side, api.Sea{Step: int(step), Sky: quantaOf(sky)}
}

// foot: the sum of all the bytes ahead of it, and nothing behind it.
func (r *reader) foot(all []byte) {
	ahead := all[:len(all)-len(r.rest)]
	sum := r.word()
	if len(r.rest) > 0 {
		giveUp(api.ErrForm)
	}
	if sum != Sum(ahead) {
		giveUp(api.ErrSum)
	}
}

// take the next n numbers, each made of its bits.
func take[T int64 | float64](r *reader, n int, of func(uint64) T) []T {
	b := &reader{rest: r.bytes(n * word)}
	list := make([]T, n) // only behind that: no room is made for bytes that aren't there
	for k := range list {
		list[k] = of(b.word())
	}
	return list
}

func (r *reader) word() uint64 {
	w := uint64(0)
	for k, x := range r.bytes(word) {
		w |= uint64(x) << (8 * k)
	}
	return w
}

// bytes: the next n.
func (r *reader) bytes(n int) []byte {
	if len(r.rest) < n {
		giveUp(api.ErrShort)
	}
	b := r.rest[:n]
	r.rest = r.rest[n:]
	return b
}
