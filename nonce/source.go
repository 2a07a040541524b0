package nonce

import (
	"clapper/api"
	"clapper/field"
	"clapper/limb"
	"clapper/mac"
	"clapper/point"
)

// source is where the numbers come from: the chapter's K and V.
type source struct{ k, v api.Digest }

func newSource(d api.Num, h api.Digest) *source {
	s := &source{}
	for i := range s.v {
		s.v[i] = 1
	}
	secret, text := limb.Bytes(d), limb.Bytes(reduced(h))
	s.mix(0, secret, text)
	s.mix(1, secret, text)
	return s
}

// reduced is a digest's number modulo n.
func reduced(h api.Digest) api.Num {
	number, _ := limb.Of(h[:])      // a digest has no more bytes than a number
	f, _ := field.New(point.N())    // n is odd: there is one
	return f.Add(number, api.Num{}) // what a field tells is below its modulus
}

// mix makes K of itself, V, a byte and the parts, and then V of both.
func (s *source) mix(mark byte, parts ...[]byte) {
	parts = append([][]byte{s.v[:], {mark}}, parts...)
	s.k = mac.Of(s.k[:], parts...)
	s.step()
}

// step makes V of itself and K.
func (s *source) step() { s.v = mac.Of(s.k[:], s.v[:]) }

// next is the next number, a candidate or not.
func (s *source) next() api.Num {
	s.step()
	number, _ := limb.Of(s.v[:])
	s.mix(0)
	return number
}
