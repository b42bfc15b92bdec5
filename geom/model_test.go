package geom

// The model: the chapter's own words. Each operation is made by numbers of many digits and rounded once; neither the
// machine's floats nor the layers below are asked, but for where the cells lie.

import (
	"math"
	"math/big"
	"strings"

	"tarn/api"
	"tarn/cube"
)

// digits of a float, and so many that the root of a float, which never lies on a middle, is told from one.
const (
	digits = 53
	plenty = 400
)

// number: a float as the model reckons with it.
func number(x float64) *big.Float { return new(big.Float).SetPrec(digits).SetFloat64(x) }

func blank() *big.Float { return new(big.Float).SetPrec(digits) }

// told: a number as a float, -0 as +0.
func told(x *big.Float) float64 {
	f, exact := x.Float64()
	if exact != big.Exact {
		panic("the model has left the normal floats")
	}
	return f + 0
}

func plus(x, y float64) float64   { return told(blank().Add(number(x), number(y))) }
func differ(x, y float64) float64 { return told(blank().Sub(number(x), number(y))) }
func times(x, y float64) float64  { return told(blank().Mul(number(x), number(y))) }
func over(x, y float64) float64   { return told(blank().Quo(number(x), number(y))) }

func root(x float64) float64 {
	wide := new(big.Float).SetPrec(plenty).Sqrt(number(x))
	return told(blank().Set(wide))
}

// axes of the faces: C, R and U, as layer 6's chapter has them.
const axes = `
+x +y +z
+y -x +z
-x -y +z
-y +x +z
+z +y -x
-z +y +x`

// modelPoint: 1 along C, p along R and q along U, over how long that is.
func modelPoint(face int, p, q float64) api.Vec {
	var out [3]float64
	for k, size := range []float64{1, p, q} {
		word := strings.Fields(axes)[3*face+k]
		if word[0] == '-' {
			size = differ(0, size)
		}
		out[strings.IndexByte("xyz", word[1])] = size
	}
	l := modelLength(out)
	return api.Vec{X: over(out[0], l), Y: over(out[1], l), Z: over(out[2], l)}
}

// modelLength: the root of the squares, the greatest added last.
func modelLength(v [3]float64) float64 {
	for k, x := range v {
		v[k] = times(x, x)
	}
	for k := range 2 {
		if v[k] > v[2] {
			v[k], v[2] = v[2], v[k]
		}
	}
	return root(plus(plus(v[0], v[1]), v[2]))
}

func apart(a, b api.Vec) [3]float64 {
	return [3]float64{differ(a.X, b.X), differ(a.Y, b.Y), differ(a.Z, b.Z)}
}

// net: all points of a side, by the model: corners by face, i and j, middles by cell.
type net struct {
	side    int
	corners map[[3]int]api.Vec
	middles []api.Vec
}

func modelNet(side int) net {
	out := net{side: side, corners: map[[3]int]api.Vec{}}
	n := float64(side)
	for face := range 6 {
		for i := range side + 1 {
			for j := range side + 1 {
				out.corners[[3]int{face, i, j}] = modelPoint(face, over(float64(2*i-side), n), over(float64(2*j-side), n))
			}
		}
		for j := range side {
			for i := range side {
				out.middles = append(out.middles, modelPoint(face, over(float64(2*i+1-side), n), over(float64(2*j+1-side), n)))
			}
		}
	}
	return out
}

// corner of a cell: right and up are 0 or 1.
func (m net) corner(cell, right, up int) api.Vec {
	n := m.side
	return m.corners[[3]int{cell / n / n, cell%n + right, cell/n%n + up}]
}

// ends of a side of a cell.
func (m net) ends(cell, side int) (api.Vec, api.Vec) {
	switch side {
	case api.East:
		return m.corner(cell, 1, 0), m.corner(cell, 1, 1)
	case api.North:
		return m.corner(cell, 0, 1), m.corner(cell, 1, 1)
	case api.West:
		return m.corner(cell, 0, 0), m.corner(cell, 0, 1)
	}
	return m.corner(cell, 0, 0), m.corner(cell, 1, 0)
}

func (m net) area(cell int) int64 {
	x := apart(m.corner(cell, 1, 1), m.corner(cell, 0, 0))
	y := apart(m.corner(cell, 0, 1), m.corner(cell, 1, 0))
	var c [3]float64
	for k := range c {
		p, q := (k+1)%3, (k+2)%3
		c[k] = differ(times(x[p], y[q]), times(x[q], y[p]))
	}
	whole := math.RoundToEven(times(times(modelLength(c), 0.5), 1<<30))
	return int64(math.Max(whole, 1))
}

func (m net) length(cell, side int) float64 {
	p, q := m.ends(cell, side)
	return modelLength(apart(p, q))
}

func (m net) gap(cell, side int) float64 {
	next, _ := cube.Beside(m.side, cell, side)
	return modelLength(apart(m.middles[cell], m.middles[next]))
}
