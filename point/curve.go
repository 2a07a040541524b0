package point

import (
	"clapper/api"
	"clapper/field"
	"clapper/limb"
)

// curve is the field of p, by what is done with its numbers.
type curve struct {
	add, sub, mul func(a, b api.Num) api.Num
	inv           func(a api.Num) (api.Num, error)
}

// scaled is a point on the curve as three numbers below p: its X is x / z z, its
// Y is y / z z z, and with z 0 it is Far. An inverse takes as long as some eighty
// products: sums of scaled points need none, only the last one's flat does.
type scaled struct{ x, y, z api.Num }

func newCurve() curve {
	f, _ := field.New(P()) // p is odd: there is one
	return curve{add: f.Add, sub: f.Sub, mul: f.Mul, inv: f.Inv}
}

func isZero(a api.Num) bool { return a == api.Num{} }

// addend is the curve's b: what is added to X X X - 3 X.
func addend() api.Num {
	return api.Num{0x3bce3c3e27d2604b, 0x651d06b0cc53b0f6, 0xb3ebbd55769886bc, 0x5ac635d8aa3a93e7}
}

func (c curve) on(a api.Point) bool {
	if a.Far {
		return isZero(a.X) && isZero(a.Y)
	}
	// The field takes numbers from p on, too: a point has none of them.
	if limb.Cmp(a.X, P()) >= 0 || limb.Cmp(a.Y, P()) >= 0 {
		return false
	}
	cube := c.mul(c.mul(a.X, a.X), a.X)
	return c.mul(a.Y, a.Y) == c.add(c.sub(cube, c.tripled(a.X)), addend())
}

func (c curve) doubled(a api.Num) api.Num { return c.add(a, a) }

func (c curve) tripled(a api.Num) api.Num { return c.add(c.doubled(a), a) }

// lifted is a point as a scaled one.
func lifted(a api.Point) scaled {
	if a.Far {
		return scaled{}
	}
	return scaled{a.X, a.Y, api.Num{1}}
}

// flat is a scaled point as one again.
func (c curve) flat(a scaled) api.Point {
	inverse, err := c.inv(a.z)
	if err != nil { // p is prime: 0 alone has none
		return api.Point{Far: true}
	}
	square := c.mul(inverse, inverse)
	return api.Point{X: c.mul(a.x, square), Y: c.mul(a.y, c.mul(square, inverse))}
}

// twice is the sum of a and itself: with l = m / (2 y z), where m is
// 3 (x x - z z z z), and 2 y z for the sum's z. Of Far that z is 0 again.
func (c curve) twice(a scaled) scaled {
	zSquare, ySquare := c.mul(a.z, a.z), c.mul(a.y, a.y)
	m := c.tripled(c.mul(c.sub(a.x, zSquare), c.add(a.x, zSquare)))
	quarter := c.mul(a.x, ySquare)
	cross := c.doubled(c.doubled(quarter))
	x := c.sub(c.mul(m, m), c.doubled(cross))
	eighth := c.mul(ySquare, ySquare)
	tail := c.doubled(c.doubled(c.doubled(eighth)))
	return scaled{
		x: x,
		y: c.sub(c.mul(m, c.sub(cross, x)), tail),
		z: c.doubled(c.mul(a.y, a.z)),
	}
}

// plus is the sum of a and b: with l = rise / (run z), and run z for the sum's z.
func (c curve) plus(a scaled, b api.Point) scaled {
	if b.Far {
		return a
	}
	if isZero(a.z) {
		return lifted(b)
	}
	zSquare := c.mul(a.z, a.z)
	run := c.sub(c.mul(b.X, zSquare), a.x)
	rise := c.sub(c.mul(b.Y, c.mul(zSquare, a.z)), a.y)
	if isZero(run) {
		if isZero(rise) {
			return c.twice(a)
		}
		return scaled{}
	}
	square := c.mul(run, run)
	cube := c.mul(square, run)
	cross := c.mul(a.x, square)
	x := c.sub(c.sub(c.mul(rise, rise), cube), c.doubled(cross))
	return scaled{
		x: x,
		y: c.sub(c.mul(rise, c.sub(cross, x)), c.mul(a.y, cube)),
		z: c.mul(a.z, run),
	}
}
