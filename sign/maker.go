package sign

import (
	"clapper/api"
	"clapper/field"
	"clapper/limb"
	"clapper/point"
)

// maker makes signatures of a digest with a secret, one a nonce.
type maker struct {
	*field.Field
	secret, number api.Num
}

func newMaker(d api.Num, h api.Digest) maker { return maker{modulo(), d, numberOf(h)} }

// modulo is the field of n.
func modulo() *field.Field {
	f, _ := field.New(point.N()) // n is odd: there is one
	return f
}

func numberOf(h api.Digest) api.Num {
	number, _ := limb.Of(h[:]) // a digest has no more bytes than a number
	return number
}

func isZero(a api.Num) bool { return a == api.Num{} }

// inRange tells whether a number is from 1 to n - 1, as a secret is, and R, and S.
func inRange(a api.Num) bool { return !isZero(a) && limb.Cmp(a, point.N()) < 0 }

// cut is a number modulo the field's: a sum is told so.
func cut(f *field.Field, a api.Num) api.Num { return f.Add(a, api.Num{}) }

// sumOf is u times the base and v times the key, which is on the curve.
func sumOf(u, v api.Num, q api.Point) api.Point {
	a, _ := point.Mul(u, point.Base())
	b, _ := point.Mul(v, q)
	sum, _ := point.Add(a, b)
	return sum
}

// first is the signature with the first of the nonces that will do. They are
// handed in for the tests' sake: no secret and digest are known whose own first
// one won't.
func (m maker) first(nonces []api.Num) (api.Sig, error) {
	for _, k := range nonces {
		a, _ := point.Mul(k, point.Base()) // the base is on the curve
		if s, ok := m.made(k, a.X); ok {
			return s, nil
		}
	}
	return api.Sig{}, api.ErrNone
}

// made is the signature with a nonce k, and x, the X of k times the base; false,
// if R or S is 0. X is handed in as no k is known whose X makes R 0.
func (m maker) made(k, x api.Num) (api.Sig, bool) {
	inverse, _ := m.Inv(k) // n is prime, and no nonce is 0: there is one
	r := cut(m.Field, x)
	s := m.Mul(m.Add(m.number, m.Mul(r, m.secret)), inverse)
	return api.Sig{R: r, S: s}, !isZero(r) && !isZero(s)
}
