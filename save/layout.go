package save

const (
	mark = "TARN"
	word = 8                      // bytes of a number
	head = len(mark) + 1 + 2*word // the mark, the side, Step and Sky
)

const (
	firstSum = 14695981039346656037
	factor   = 1099511628211
)

func cells(side int) int { return 6 * side * side }

func edges(side int) int { return 2 * cells(side) }

// size in bytes of a sea of a side.
func size(side int) int { return head + word*(3*cells(side)+edges(side)+1) }

func putWord(b []byte, w uint64) []byte {
	for k := range word {
		b = append(b, byte(w>>(8*k)))
	}
	return b
}

// putList: each number by its bits.
func putList[T int64 | float64](b []byte, list []T, bits func(T) uint64) []byte {
	for _, x := range list {
		b = putWord(b, bits(x))
	}
	return b
}

func bitsOf(n int64) uint64 { return uint64(n) }

func quantaOf(bits uint64) int64 { return int64(bits) }
