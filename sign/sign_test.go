package sign

import (
	"bytes"
	"math"
	"math/big"
	"math/rand/v2"
	"slices"
	"testing"

	"clapper/api"
	"clapper/limb"
	"clapper/nonce"
	"clapper/point"
	"clapper/sha"
)

const full = math.MaxUint64

var (
	far     = api.Point{Far: true}
	largest = api.Num{full, full, full, full}
	modulus = hexBig("ffffffff00000001000000000000000000000000ffffffffffffffffffffffff")
	order   = hexBig("ffffffff00000000ffffffffffffffffbce6faada7179e84f3b9cac2fc632551")
	addend  = hexBig("5ac635d8aa3a93e7b3ebbd55769886bc651d06b0cc53b0f63bce3c3e27d2604b")
	// secret and its key are those of RFC 6979, A.2.5.
	secret    = hexNum("c9afa9d845ba75166b5c215767b1d6934e50c3db36e89b127b8a622b120f6721")
	secretKey = hexPoint("60fed4ba255a9d31c961eb74c6356d68c049b8923b61fa6ce669622e60f29fb6",
		"7903fe1008b8bc99a41ae9e95628bc64f2f1b20c2d7e9f5177a3c294d4462299")
)

func hexBig(text string) *big.Int {
	x, ok := new(big.Int).SetString(text, 16)
	if !ok {
		panic(text)
	}
	return x
}

func numOf(x *big.Int) api.Num {
	a, err := limb.Of(x.Bytes())
	if err != nil {
		panic(x)
	}
	return a
}

func bigOf(a api.Num) *big.Int { return new(big.Int).SetBytes(limb.Bytes(a)) }

func hexNum(text string) api.Num { return numOf(hexBig(text)) }

func hexPoint(x, y string) api.Point { return api.Point{X: hexNum(x), Y: hexNum(y)} }

func hexSig(r, s string) api.Sig { return api.Sig{R: hexNum(r), S: hexNum(s)} }

// digestOf is the digest whose number x is.
func digestOf(x *big.Int) api.Digest { return api.Digest(x.FillBytes(make([]byte, 32))) }

func numberIn(h api.Digest) *big.Int { return new(big.Int).SetBytes(h[:]) }

func plus(x *big.Int, more int64) *big.Int { return new(big.Int).Add(x, big.NewInt(more)) }

// orderPlus is n and so many more.
func orderPlus(more int64) api.Num { return numOf(plus(order, more)) }

// The four below are modulo n.

func times(x, y *big.Int) *big.Int {
	product := new(big.Int).Mul(x, y)
	return product.Mod(product, order)
}

func over(x, y *big.Int) *big.Int { return times(x, new(big.Int).ModInverse(y, order)) }

func sum(x, y *big.Int) *big.Int {
	z := new(big.Int).Add(x, y)
	return z.Mod(z, order)
}

func negative(x *big.Int) *big.Int { return times(big.NewInt(-1), x) }

func multiple(k *big.Int, a api.Point) api.Point {
	b, err := point.Mul(numOf(k), a)
	if err != nil {
		panic(err)
	}
	return b
}

func added(a, b api.Point) api.Point {
	c, err := point.Add(a, b)
	if err != nil {
		panic(err)
	}
	return c
}

func negated(a api.Point) api.Point {
	b, err := point.Neg(a)
	if err != nil {
		panic(err)
	}
	return b
}

// chosen makes numbers from 1 to n - 1 that look unlike each other, and are the
// same in each run.
func chosen(seed uint64) func() *big.Int {
	r := rand.New(rand.NewPCG(7, seed))
	return func() *big.Int {
		x := bigOf(api.Num{r.Uint64(), r.Uint64(), r.Uint64(), r.Uint64()})
		return plus(x.Mod(x, plus(order, -1)), 1)
	}
}

// secrets are some from 1 to n - 1, both ends among them.
func secrets() []api.Num {
	l := []api.Num{
		{1}, {2}, {full}, {0, 0, 0, 1}, secret,
		numOf(new(big.Int).Rsh(order, 1)), orderPlus(-2), orderPlus(-1),
	}
	next := chosen(1)
	for range 2 {
		l = append(l, numOf(next()))
	}
	return l
}

// outside are 0, and some from n on: neither secrets, nor R, nor S.
func outside() []api.Num {
	l := []api.Num{{}, orderPlus(0), orderPlus(1), orderPlus(2), orderPlus(1 << 40), largest, {full - 1, full, full, full}, {0, 0, 0, full}, numOf(modulus)}
	for i := range 3 {
		above := orderPlus(0)
		above[i] = full
		l = append(l, above)
	}
	return l
}

// digests have numbers below n, n itself, and above it up to 2^256 - 1.
func digests() []api.Digest {
	l := []api.Digest{{}, {31: 1}, {0: 0x80}, sha.Sum([]byte("sample")), digestOf(bigOf(largest))}
	for _, more := range []int64{-1, 0, 1, 1 << 40} {
		l = append(l, digestOf(plus(order, more)))
	}
	return l
}

func mustPublic(t *testing.T, d api.Num) api.Point {
	t.Helper()
	q, err := Public(d)
	if err != nil {
		t.Fatal("Public", d, err)
	}
	return q
}

func mustSign(t *testing.T, d api.Num, h api.Digest) api.Sig {
	t.Helper()
	s, err := Sign(d, h)
	if err != nil {
		t.Fatal("Sign", d, h, err)
	}
	return s
}

// otherSig is the signature by the chapter's own words.
func otherSig(d, k api.Num, h api.Digest) api.Sig {
	x := bigOf(multiple(bigOf(k), point.Base()).X)
	r := x.Mod(x, order)
	return api.Sig{R: numOf(r), S: numOf(over(sum(numberIn(h), times(r, bigOf(d))), bigOf(k)))}
}

func mayBe(a api.Num) bool { return bigOf(a).Sign() > 0 && bigOf(a).Cmp(order) < 0 }

// otherHolds is whether a signature holds by the chapter's own words.
func otherHolds(q api.Point, h api.Digest, s api.Sig) bool {
	if q.Far || !point.On(q) || !mayBe(s.R) || !mayBe(s.S) {
		return false
	}
	u, v := over(numberIn(h), bigOf(s.S)), over(bigOf(s.R), bigOf(s.S))
	a := added(multiple(u, point.Base()), multiple(v, q))
	x := bigOf(a.X)
	return !a.Far && x.Mod(x, order).Cmp(bigOf(s.R)) == 0
}

// signed is a signature, of a digest, and a key.
type signed struct {
	q api.Point
	h api.Digest
	s api.Sig
}

func (c signed) holds() bool { return Verify(c.q, c.h, c.s) }

func (c signed) check(t *testing.T, want bool) {
	t.Helper()
	if got := c.holds(); got != want {
		t.Error(c, got)
	}
}

// turned has n - S, modulo 2^256, for S.
func (c signed) turned() signed {
	c.s.S, _ = limb.Sub(orderPlus(0), c.s.S)
	return c
}

// forged makes a key, and a digest, so that a signature of it holds for the key,
// with u and v (and the S that comes of v): the sum of u times the base and v
// times the key is a. Nobody needs to know the key's secret.
func forged(a api.Point, u, v *big.Int) signed {
	x := bigOf(a.X)
	r := x.Mod(x, order)
	s := over(r, v)
	rest := added(a, negated(multiple(u, point.Base())))
	return signed{
		q: multiple(over(big.NewInt(1), v), rest),
		h: digestOf(times(u, s)),
		s: api.Sig{R: numOf(r), S: numOf(s)},
	}
}

// pointAt is one of the points with that X, if there is one.
func pointAt(x *big.Int) (api.Point, bool) {
	right := new(big.Int).Mul(x, x)
	right.Sub(right, big.NewInt(3)).Mul(right, x).Add(right, addend)
	y := new(big.Int).ModSqrt(right.Mod(right, modulus), modulus)
	if y == nil {
		return api.Point{}, false
	}
	return api.Point{X: numOf(x), Y: numOf(y)}, true
}

// pointsFrom are so many points with an X from x on, or down to it with step -1.
func pointsFrom(x *big.Int, step int64, many int) []api.Point {
	var l []api.Point
	for ; len(l) < many; x = plus(x, step) {
		if a, ok := pointAt(x); ok {
			l = append(l, a)
		}
	}
	return l
}

// samples are signatures that hold, of secrets and forged ones.
func samples(t *testing.T) []signed {
	var l []signed
	for i, d := range secrets() {
		h := digests()[i%len(digests())]
		l = append(l, signed{mustPublic(t, d), h, mustSign(t, d, h)})
	}
	next := chosen(2)
	for _, a := range pointsFrom(big.NewInt(1), 1, 2) {
		l = append(l, forged(a, next(), next()))
	}
	return l
}

// P7.1

func TestPublicOfKnownSecrets(t *testing.T) {
	for _, c := range []struct {
		d api.Num
		q api.Point
	}{
		{secret, secretKey},
		{api.Num{1}, hexPoint("6b17d1f2e12c4247f8bce6e563a440f277037d812deb33a0f4a13945d898c296", "4fe342e2fe1a7f9b8ee7eb4a7c0f9e162bce33576b315ececbb6406837bf51f5")},
		{api.Num{2}, hexPoint("7cf27b188d034f7e8a52380304b51ac3c08969e277f21b35a60b48fc47669978", "07775510db8ed040293d9ac69f7430dbba7dade63ce982299e04b79d227873d1")},
		{numOf(new(big.Int).Rsh(order, 1)), hexPoint("2afa386b3f2bdcdb83f4d83f8fa3874d7b74dcb454bd644fdd6bf3d1f2da8db6", "72184be1caa8563462b536f10852d665ae8a64fdf1eb8d4c946ad589796f729c")},
		{orderPlus(-2), hexPoint("7cf27b188d034f7e8a52380304b51ac3c08969e277f21b35a60b48fc47669978", "f888aaee24712fc0d6c26539608bcf244582521ac3167dd661fb4862dd878c2e")},
		{orderPlus(-1), hexPoint("6b17d1f2e12c4247f8bce6e563a440f277037d812deb33a0f4a13945d898c296", "b01cbd1c01e58065711814b583f061e9d431cca994cea1313449bf97c840ae0a")},
	} {
		if q := mustPublic(t, c.d); q != c.q {
			t.Error(c.d, q)
		}
	}
}

func TestPublicIsThatMultipleOfTheBase(t *testing.T) {
	for _, d := range secrets() {
		if q := mustPublic(t, d); q != multiple(bigOf(d), point.Base()) || q.Far || !point.On(q) {
			t.Error(d, q)
		}
	}
}

func TestWhatIsNoSecretIsNoArgument(t *testing.T) {
	for _, d := range outside() {
		if q, err := Public(d); q != (api.Point{}) || err != api.ErrArg {
			t.Error("Public", d, q, err)
		}
		for _, h := range digests() {
			if s, err := Sign(d, h); s != (api.Sig{}) || err != api.ErrArg {
				t.Error("Sign", d, h, s, err)
			}
		}
	}
}

// knownSig is a signature that another program told.
type knownSig struct {
	d api.Num
	h api.Digest
	s api.Sig
}

// known are RFC 6979's, A.2.5, and others at the ends of secrets and digests.
func known() []knownSig {
	least, most := api.Num{1}, orderPlus(-1)
	half := numOf(new(big.Int).Rsh(order, 1))
	zero, one, all := api.Digest{}, api.Digest{31: 1}, digestOf(bigOf(largest))
	below, same, above := digestOf(plus(order, -1)), digestOf(order), digestOf(plus(order, 1))
	return []knownSig{
		{secret, sha.Sum([]byte("sample")), hexSig("efd48b2aacb6a8fd1140dd9cd45e81d69d2c877b56aaf991c34d0ea84eaf3716", "f7cb1c942d657c41d436c7a1b6e29f65f3e900dbb9aff4064dc4ab2f843acda8")},
		{secret, sha.Sum([]byte("test")), hexSig("f1abb023518351cd71d881567b1ea663ed3efcf6c5132b354f28d3b0b7d38367", "019f4113742a2b14bd25926b49c649155f267e60d3814b4c0cc84250e46f0083")},
		{secret, sha.Sum(nil), hexSig("0338197042a13192bec427db63c8d2dece6a08dbcc3d5181a9983e62032b0230", "98feda6c583d409233023308d3848aa21b64381d85ee6e1c090a5d11fb7be0c7")},
		{least, zero, hexSig("0e6b3bb68d65aa645104de3abb94cbc6f568e2d55ea511d0e6d300e177002159", "167afc0b518bd63853ccc1b5292e27024c557c8924ca3dec81d59651b9021794")},
		{least, one, hexSig("4b5c41b83db4cdef7604f3c9cc213cf2dc614962ece259ae18f20472c7b8b73d", "821dfbae0eee5c57777665eca707fc0d3fb95c8b682213037e98474f00694b50")},
		{least, below, hexSig("fe461e17d0d11a621762da2a4958643de34d0d8de9108a839706b3c4f4be8311", "f713136e9ae000b65408efd3d22b600155aa1a5ac1fc1304b700e172a53e8141")},
		{least, same, hexSig("0e6b3bb68d65aa645104de3abb94cbc6f568e2d55ea511d0e6d300e177002159", "167afc0b518bd63853ccc1b5292e27024c557c8924ca3dec81d59651b9021794")},
		{least, above, hexSig("4b5c41b83db4cdef7604f3c9cc213cf2dc614962ece259ae18f20472c7b8b73d", "821dfbae0eee5c57777665eca707fc0d3fb95c8b682213037e98474f00694b50")},
		{least, all, hexSig("bb39491f7fef3e14da8f0431d525575c587c358b05e71e2e5e3c0199bb9ec798", "53508ccce16e222da12f2a2c012d2240b7f6f8f6d43d5b1a452719a3b6846300")},
		{half, zero, hexSig("099e39737ae2fd5666d2363ded5d5c4bf739b662fcf962e7ef6b4384228b801f", "43703159be18165297bbf9cb3d367b4da9084705acbb8c2c5cb044b7fef42f49")},
		{half, one, hexSig("05d277fbad53508a24d55e722145b3ff2ae1499f1644e7f909f428f4695005c8", "4e1638be7ed9b4d0cbf5b7902f71ecc5904fa6c8d59d6adf803b25574bf2f9db")},
		{half, below, hexSig("f1b4708a0203a51550aa549f8ac1d56abcc4378df3a06b602de417601ddcfddc", "a7e9f71e159b0003524bad99becbc00d8b3b3dd30be7892e4f78f6a31d20aa13")},
		{half, all, hexSig("dd6ab132c6817888193eda75005b4afd09b6b400d84d0650cf4fe6f58f1a9ff3", "b110d8c5737b9d723328e5d516485c1642fb38cb6936e6dc1ebe27be0d5c8fa7")},
		{most, zero, hexSig("668805e94b02193f59cb7b33dd8ae4195cfb767fd46b58893926cc19497f1dc3", "1d883e8bfba9f070c9fb808695c304d1427c899ae8e988dc067b3b9113aa67f2")},
		{most, one, hexSig("fef9515d65571f3b535ec2e515683d6915a969c4966c42000a817879dc19032f", "3e884bc6ee9f708d2c9032bb2eea9ee2fd5c89ef149e0fe02c6d0a2854ef5d23")},
		{most, below, hexSig("72201a0150439e124206ec8cec6b3dc049e61f63ed757e88595af08c031aaea7", "4e22228ea37e9c3817d6c9fcf1679f3ec1680663ec20a80c05418fa044075936")},
		{most, same, hexSig("668805e94b02193f59cb7b33dd8ae4195cfb767fd46b58893926cc19497f1dc3", "1d883e8bfba9f070c9fb808695c304d1427c899ae8e988dc067b3b9113aa67f2")},
		{most, above, hexSig("fef9515d65571f3b535ec2e515683d6915a969c4966c42000a817879dc19032f", "3e884bc6ee9f708d2c9032bb2eea9ee2fd5c89ef149e0fe02c6d0a2854ef5d23")},
		{most, all, hexSig("77b47b05c7efc7af6da228f99727ae7cf6fc3aa80c36663ec4a56b2f7aa32f89", "bc70ca0c1e8f4530ed6ecf3088a1f47dad8bcf10fd61e1ff727dd77b147810b5")},
	}
}

func TestSignIsAsKnown(t *testing.T) {
	for _, c := range known() {
		if s := mustSign(t, c.d, c.h); s != c.s {
			t.Error(c.d, c.h, s)
		}
	}
}

func TestSignIsWhatTheChaptersWordsTell(t *testing.T) {
	for _, d := range secrets() {
		for _, h := range digests() {
			nonces, err := nonce.List(d, h, 1)
			if err != nil {
				t.Fatal(err)
			}
			if got, want := mustSign(t, d, h), otherSig(d, nonces[0], h); got != want {
				t.Error(d, h, got, want)
			}
		}
	}
}

func TestTheNumberOfADigestIsModuloN(t *testing.T) {
	most := new(big.Int).Sub(bigOf(largest), order)
	for _, x := range []*big.Int{big.NewInt(0), big.NewInt(1), big.NewInt(1 << 40), most} {
		h, above := digestOf(x), digestOf(new(big.Int).Add(x, order))
		for _, d := range []api.Num{{1}, secret, orderPlus(-1)} {
			s := mustSign(t, d, h)
			if s != mustSign(t, d, above) {
				t.Error(d, x)
			}
			signed{mustPublic(t, d), above, s}.check(t, true)
		}
	}
}

func TestSignHangsOnNothingThatWasAheadOfIt(t *testing.T) {
	h := sha.Sum([]byte("sample"))
	want := mustSign(t, secret, h)
	mustSign(t, api.Num{1}, api.Digest{})
	if _, err := Sign(api.Num{}, h); err != api.ErrArg {
		t.Error(err)
	}
	if got := mustSign(t, secret, h); got != want {
		t.Error(got)
	}
}

// spoilt is the digest of which the nonce's signature, with the secret, has S 0.
func spoilt(d, k api.Num) api.Digest {
	return digestOf(negative(times(bigOf(otherSig(d, k, api.Digest{}).R), bigOf(d))))
}

func TestFirstLeavesOutTheNonceThatMakesS0(t *testing.T) {
	for _, d := range []api.Num{{1}, secret, orderPlus(-1)} {
		k, next, behind := api.Num{5}, api.Num{6}, api.Num{7}
		h := spoilt(d, k)
		turned := numOf(negative(bigOf(k))) // its X is the same, so that its S is 0, too
		for _, ahead := range [][]api.Num{nil, {k}, {turned}, {k, turned}, slices.Repeat([]api.Num{k}, 15)} {
			m := newMaker(d, h)
			if s, err := m.first(ahead); s != (api.Sig{}) || err != api.ErrNone {
				t.Error("alone", d, ahead, s, err)
			}
			if s, err := m.first(append(slices.Clone(ahead), next, k, behind)); s != otherSig(d, next, h) || err != nil {
				t.Error(d, ahead, s, err)
			}
		}
	}
}

func TestFirstTakesTheFirstThatWillDo(t *testing.T) {
	h := sha.Sum([]byte("sample"))
	nonces := []api.Num{{1}, {2}, secret, orderPlus(-1), orderPlus(-2)}
	for i, k := range nonces {
		s, err := newMaker(secret, h).first(nonces[i:])
		if s != otherSig(secret, k, h) || err != nil {
			t.Error(i, s, err)
		}
		signed{secretKey, h, s}.check(t, true)
	}
}

func TestNoSignatureIsMadeWithR0OrS0(t *testing.T) {
	d, k := secret, api.Num{5}
	base := multiple(bigOf(k), point.Base())
	m := newMaker(d, sha.Sum([]byte("sample")))
	for _, x := range []api.Num{{}, orderPlus(0)} {
		if s, ok := m.made(k, x); ok {
			t.Error("R", x, s)
		}
	}
	for _, x := range []api.Num{{1}, orderPlus(-1), orderPlus(1), base.X} {
		if s, ok := m.made(k, x); !ok {
			t.Error(x, s)
		}
	}
	if s, ok := newMaker(d, spoilt(d, k)).made(k, base.X); ok {
		t.Error("S", s)
	}
	// R is 0 alone: of no digest's number, S is 0 with it.
	if s, ok := newMaker(d, api.Digest{}).made(k, api.Num{}); ok {
		t.Error("both", s)
	}
}

func TestRIsTheXModuloN(t *testing.T) {
	m := newMaker(secret, sha.Sum([]byte("sample")))
	for _, more := range []int64{1, 2, 1 << 40} {
		got, ok := m.made(api.Num{5}, orderPlus(more))
		want, _ := m.made(api.Num{5}, api.Num{uint64(more)})
		if !ok || got != want || got.R != (api.Num{uint64(more)}) {
			t.Error(more, got, want, ok)
		}
	}
}

// P7.2

func TestKnownSignaturesHold(t *testing.T) {
	for _, c := range known() {
		q := mustPublic(t, c.d)
		signed{q, c.h, c.s}.check(t, true)
		signed{q, sha.Sum([]byte("another")), c.s}.check(t, false)
		signed{mustPublic(t, api.Num{3}), c.h, c.s}.check(t, false)
		signed{q, c.h, api.Sig{R: c.s.S, S: c.s.R}}.check(t, false)
	}
}

func TestForgedSignaturesHold(t *testing.T) {
	next := chosen(3)
	for range 12 {
		c := forged(multiple(next(), point.Base()), next(), next())
		c.check(t, true)
		if !otherHolds(c.q, c.h, c.s) {
			t.Error("made wrong", c)
		}
	}
}

func TestVerifyIsWhatTheChaptersWordsTell(t *testing.T) {
	all := samples(t)
	for i, c := range all {
		other := all[(i+1)%len(all)]
		for _, mixed := range []signed{
			c, {other.q, c.h, c.s}, {c.q, other.h, c.s}, {negated(c.q), c.h, c.s},
			{c.q, c.h, api.Sig{R: other.s.R, S: c.s.S}}, {c.q, c.h, api.Sig{R: c.s.R, S: other.s.S}},
		} {
			mixed.check(t, otherHolds(mixed.q, mixed.h, mixed.s))
		}
	}
}

func TestNoBitOfASignatureMayBeChanged(t *testing.T) {
	h := sha.Sum([]byte("sample"))
	good := signed{secretKey, h, mustSign(t, secret, h)}
	for i := range 256 {
		r, s, digest := good, good, good
		r.s.R[i/64] ^= 1 << (i % 64)
		s.s.S[i/64] ^= 1 << (i % 64)
		digest.h[i/8] ^= 1 << (i % 8)
		for _, c := range []signed{r, s, digest} {
			if c.holds() {
				t.Error(i, c)
			}
		}
	}
}

func TestASignatureOfAnotherDigestDoesntHold(t *testing.T) {
	for _, d := range []api.Num{{1}, secret, orderPlus(-1)} {
		q := mustPublic(t, d)
		for _, h := range digests() {
			s := mustSign(t, d, h)
			for _, other := range digests() {
				same := new(big.Int).Sub(numberIn(h), numberIn(other))
				signed{q, other, s}.check(t, same.Mod(same, order).Sign() == 0)
			}
		}
	}
}

func TestASignatureOfAnotherSecretDoesntHold(t *testing.T) {
	h := sha.Sum([]byte("sample"))
	for _, d := range secrets() {
		s := mustSign(t, d, h)
		for _, other := range secrets() {
			signed{mustPublic(t, other), h, s}.check(t, d == other)
		}
	}
}

func TestRAndSAreFrom1ToBelowN(t *testing.T) {
	for _, c := range samples(t) {
		c.check(t, true)
		for _, wrong := range outside() {
			r, s, both := c, c, c
			r.s.R, s.s.S = wrong, wrong
			both.s = api.Sig{R: wrong, S: wrong}
			r.check(t, false)
			s.check(t, false)
			both.check(t, false)
		}
	}
}

// smallest are signatures that hold, with an R or an S to which n can be added.
func smallest() []signed {
	next := chosen(4)
	var l []signed
	for _, a := range pointsFrom(big.NewInt(1), 1, 3) {
		l = append(l, forged(a, next(), next()))
	}
	for _, s := range []int64{1, 2, 3, 1 << 40} {
		a := multiple(next(), point.Base())
		x := bigOf(a.X)
		l = append(l, forged(a, next(), over(x.Mod(x, order), big.NewInt(s))))
	}
	return l
}

func TestNAndROrNAndSDontHold(t *testing.T) {
	many := 0
	for _, c := range smallest() {
		c.check(t, true)
		r, s := c, c
		var overR, overS bool
		r.s.R, overR = limb.Add(c.s.R, orderPlus(0))
		s.s.S, overS = limb.Add(c.s.S, orderPlus(0))
		if !overR {
			r.check(t, false)
			many++
		}
		if !overS {
			s.check(t, false)
			many++
		}
	}
	if many < 7 {
		t.Error(many)
	}
}

func TestRAndSAtTheirEnds(t *testing.T) {
	next := chosen(5)
	last := plus(order, -1)
	for _, s := range []*big.Int{big.NewInt(1), last} {
		a := multiple(next(), point.Base())
		c := forged(a, next(), over(bigOf(a.X), s))
		if c.s.S != numOf(s) {
			t.Error(c)
		}
		c.check(t, true)
	}
	// 1, n - 1 and n + 1 are the X of no point, so that R is never 1, nor n - 1:
	// these are the nearest.
	for _, a := range append(pointsFrom(big.NewInt(1), 1, 1), pointsFrom(last, -1, 1)...) {
		c := forged(a, next(), next())
		if c.s.R != a.X {
			t.Error(c)
		}
		c.check(t, true)
	}
}

func TestTheXThatIsntBelowNIsCut(t *testing.T) {
	next := chosen(6)
	for _, a := range append(pointsFrom(plus(order, 1), 1, 4), pointsFrom(plus(modulus, -1), -1, 4)...) {
		if bigOf(a.X).Cmp(order) <= 0 {
			t.Fatal(a)
		}
		c := forged(a, next(), next())
		if want := new(big.Int).Sub(bigOf(a.X), order); c.s.R != numOf(want) {
			t.Error(c)
		}
		c.check(t, true)
		c.turned().check(t, true)
		c.s.R = a.X
		c.check(t, false)
	}
}

func TestTheSumOfAPointAndItself(t *testing.T) {
	next := chosen(7)
	for range 6 {
		u, v := next(), next()
		c := forged(multiple(times(u, big.NewInt(2)), point.Base()), u, v)
		if multiple(u, point.Base()) != multiple(v, c.q) {
			t.Fatal("unlike", c)
		}
		c.check(t, true)
		c.turned().check(t, true)
		c.h[31] ^= 1
		c.check(t, false)
	}
}

func TestTheSumThatIsFarDoesntHold(t *testing.T) {
	next := chosen(8)
	for _, d := range secrets() {
		for _, r := range []*big.Int{big.NewInt(1), next(), plus(order, -1)} {
			// With this digest u times the base is v times the key turned, whatever S is.
			h := digestOf(negative(times(r, bigOf(d))))
			for _, s := range []*big.Int{big.NewInt(1), next(), plus(order, -1)} {
				signed{mustPublic(t, d), h, api.Sig{R: numOf(r), S: numOf(s)}}.check(t, false)
			}
		}
	}
}

func TestADigestOfNumber0LeavesTheBaseOut(t *testing.T) {
	for _, d := range secrets() {
		for _, h := range []api.Digest{{}, digestOf(order)} {
			c := signed{mustPublic(t, d), h, mustSign(t, d, h)}
			c.check(t, true)
			// The sum is a multiple of the key alone: the negative's X is the same.
			c.q = negated(c.q)
			c.check(t, true)
			c.h = api.Digest{31: 1}
			c.check(t, false)
		}
	}
}

func TestTheBaseAndItsNegativeAreKeys(t *testing.T) {
	for _, h := range digests() {
		base := signed{point.Base(), h, mustSign(t, api.Num{1}, h)}
		other := signed{negated(point.Base()), h, mustSign(t, orderPlus(-1), h)}
		base.check(t, true)
		other.check(t, true)
		zero := new(big.Int).Mod(numberIn(h), order).Sign() == 0
		base.q, other.q = other.q, base.q
		base.check(t, zero)
		other.check(t, zero)
	}
}

func TestNothingHoldsForFar(t *testing.T) {
	next := chosen(9)
	for range 6 {
		// The sum would be u times the base, with the R that is asked for.
		u, s := next(), next()
		x := bigOf(multiple(u, point.Base()).X)
		c := signed{far, digestOf(times(u, s)), api.Sig{R: numOf(x.Mod(x, order)), S: numOf(s)}}
		c.check(t, false)
		c.q = api.Point{}
		c.check(t, false)
		c.q = api.Point{X: point.Base().X, Y: point.Base().Y, Far: true}
		c.check(t, false)
	}
}

func TestNothingHoldsForAKeyOffTheCurve(t *testing.T) {
	for _, c := range samples(t) {
		c.check(t, true)
		x, y := c.q.X, c.q.Y
		for _, q := range []api.Point{
			far, {}, {X: x, Y: y, Far: true}, {X: x, Far: true}, {Y: y, Far: true}, {X: x}, {Y: y}, {X: y, Y: x},
			{X: numOf(plus(bigOf(x), 1)), Y: y}, {X: x, Y: numOf(plus(bigOf(y), 1))},
			{X: largest, Y: y}, {X: x, Y: largest}, {X: numOf(modulus), Y: y}, {X: x, Y: numOf(modulus)},
		} {
			c.q = q
			c.check(t, false)
		}
	}
}

// smallKeys are points with an X, or a Y, to which p can be added below 2^256.
func smallKeys() []api.Point {
	return append(pointsFrom(big.NewInt(0), 1, 3),
		hexPoint("d7325d7646cd60d80a92738ceb345f844cffaf35841022cab176f692de8de1d7", "5"),
		hexPoint("9b21c2de1da31d68731dbdaf97d7ab3f979131e28e3dc5b2077d5a7187914a78", "6"),
		hexPoint("6655861894c5d2f49bf3dbc1b3b175009530f4300e73f9d1a16c4effb44956f6", "b"))
}

func TestNothingHoldsForAKeyWhoseXOrYIsntBelowP(t *testing.T) {
	next := chosen(10)
	many := 0
	for _, q := range smallKeys() {
		u, v := next(), next()
		c := forged(added(multiple(u, point.Base()), multiple(v, q)), u, v)
		if c.q != q {
			t.Fatal("another key", c)
		}
		c.check(t, true)
		x, overX := limb.Add(q.X, point.P())
		y, overY := limb.Add(q.Y, point.P())
		if !overX {
			c.q = api.Point{X: x, Y: q.Y}
			c.check(t, false)
			many++
		}
		if !overY {
			c.q = api.Point{X: q.X, Y: y}
			c.check(t, false)
			many++
		}
	}
	if many < 6 {
		t.Error(many)
	}
}

// numbers are what R and S are, or may not be, as bytes.
func numbers() []api.Num {
	l := append(outside(), secrets()...)
	return append(l, api.Num{0x0706050403020100, 0x0f0e0d0c0b0a0908, 0x1716151413121110, 0x1f1e1d1c1b1a1918}, api.Num{0, 0, 0, 1 << 63})
}

// otherBytes are R's and S's 32 bytes, the highest first.
func otherBytes(s api.Sig) []byte {
	b := make([]byte, 64)
	bigOf(s.R).FillBytes(b[:32])
	bigOf(s.S).FillBytes(b[32:])
	return b
}

func TestBytesAreRsAndSs(t *testing.T) {
	for _, r := range numbers() {
		for _, s := range numbers() {
			c := api.Sig{R: r, S: s}
			if got := Bytes(c); !bytes.Equal(got, otherBytes(c)) {
				t.Error(c, got)
			}
		}
	}
	var want []byte
	for i := range 64 {
		want = append(want, byte(i))
	}
	got := Bytes(api.Sig{
		R: api.Num{0x18191a1b1c1d1e1f, 0x1011121314151617, 0x08090a0b0c0d0e0f, 0x0001020304050607},
		S: api.Num{0x38393a3b3c3d3e3f, 0x3031323334353637, 0x28292a2b2c2d2e2f, 0x2021222324252627},
	})
	if !bytes.Equal(got, want) {
		t.Error(got)
	}
}

func TestParseOfWhatBytesTells(t *testing.T) {
	for _, r := range numbers() {
		for _, s := range numbers() {
			c := api.Sig{R: r, S: s}
			if got, err := Parse(Bytes(c)); got != c || err != nil {
				t.Error(c, got, err)
			}
		}
	}
}

func TestParseOfAnyNumbersAndBytesOfThem(t *testing.T) {
	r := rand.New(rand.NewPCG(7, 11))
	for i := range 300 {
		b := make([]byte, 64)
		for j := range b {
			b[j] = byte(r.Uint32())
		}
		if i%3 == 0 { // from n on
			copy(b[i%2*32:], bytes.Repeat([]byte{0xff}, 32))
		}
		s, err := Parse(b)
		if err != nil || bigOf(s.R).Cmp(new(big.Int).SetBytes(b[:32])) != 0 || bigOf(s.S).Cmp(new(big.Int).SetBytes(b[32:])) != 0 {
			t.Error(b, s, err)
		}
		if !bytes.Equal(Bytes(s), b) {
			t.Error(b, s)
		}
	}
}

func TestParseOfBytesOfOtherCounts(t *testing.T) {
	h := sha.Sum([]byte("sample"))
	good := slices.Concat(Bytes(mustSign(t, secret, h)), make([]byte, 1000))
	counts := []int{95, 96, 97, 127, 128, 129, 256, 1064}
	for n := range 67 {
		counts = append(counts, n)
	}
	for _, n := range counts {
		s, err := Parse(good[:n])
		if n == 64 {
			if s != mustSign(t, secret, h) || err != nil {
				t.Error(s, err)
			}
			continue
		}
		if s != (api.Sig{}) || err != api.ErrForm {
			t.Error(n, s, err)
		}
		if s, err := Parse(make([]byte, n)); s != (api.Sig{}) || err != api.ErrForm {
			t.Error("of 0", n, s, err)
		}
	}
	if s, err := Parse(nil); s != (api.Sig{}) || err != api.ErrForm {
		t.Error("nil", s, err)
	}
}

func TestParseAsksForNothingButTheCount(t *testing.T) {
	for _, fill := range []byte{0, 1, 0x80, 0xff} {
		s, err := Parse(bytes.Repeat([]byte{fill}, 64))
		if err != nil || s.R != s.S || limb.Bytes(s.R)[0] != fill {
			t.Error(fill, s, err)
		}
		signed{secretKey, sha.Sum([]byte("sample")), s}.check(t, false)
	}
}

// P7.3

func TestWhatIsHandedInStays(t *testing.T) {
	text := sha.Sum([]byte("sample"))
	d, h, q := secret, text, secretKey
	s := mustSign(t, d, h)
	was := s
	Public(d)
	Verify(q, h, s)
	b := Bytes(s)
	kept := slices.Clone(b)
	Parse(b)
	Parse(b[:63])
	if d != secret || h != text || q != secretKey || s != was || !bytes.Equal(b, kept) {
		t.Error(d, h, q, s, b)
	}
}

func TestNoncesThatAreHandedInStay(t *testing.T) {
	k := api.Num{5}
	nonces := []api.Num{k, {6}, {7}}
	newMaker(secret, spoilt(secret, k)).first(nonces)
	if !slices.Equal(nonces, []api.Num{k, {6}, {7}}) {
		t.Error(nonces)
	}
}

func TestWhatWasToldIsTheCallers(t *testing.T) {
	h := sha.Sum([]byte("sample"))
	s := mustSign(t, secret, h)
	want := otherBytes(s)
	first, second := Bytes(s), Bytes(s)
	clear(first)
	_ = append(first[:0], bytes.Repeat([]byte{0xff}, 100)...)
	if !bytes.Equal(second, want) || !bytes.Equal(Bytes(s), want) {
		t.Error(second)
	}
	parsed, err := Parse(second)
	clear(second)
	if parsed != s || err != nil {
		t.Error("what was parsed follows its bytes", parsed, err)
	}
	key := mustPublic(t, secret)
	key.X[0], key.Far = 0, true
	s.R[0], s.S[0] = 0, 0
	if mustPublic(t, secret) != secretKey || !bytes.Equal(Bytes(mustSign(t, secret, h)), want) {
		t.Error("what was told is told again")
	}
}

// P7.4

func TestWhatWasSignedHolds(t *testing.T) {
	for _, d := range secrets() {
		q := mustPublic(t, d)
		for _, h := range digests() {
			c := signed{q, h, mustSign(t, d, h)}
			c.check(t, true)
			c.turned().check(t, true)
		}
	}
}

func TestWhatWasSignedHoldsOfManySecrets(t *testing.T) {
	next := chosen(12)
	for range 30 {
		d, h := numOf(next()), digestOf(next())
		c := signed{mustPublic(t, d), h, mustSign(t, d, h)}
		c.check(t, true)
		parsed, err := Parse(Bytes(c.s))
		if err != nil {
			t.Error(err)
		}
		signed{c.q, c.h, parsed}.check(t, true)
		if !mayBe(c.s.R) || !mayBe(c.s.S) {
			t.Error(c)
		}
	}
}

func TestSTurnedHoldsTooOrNeitherDoes(t *testing.T) {
	l := append(samples(t), smallest()...)
	for _, c := range l {
		other := c
		other.h[0] ^= 1
		r := c
		r.s.R = numOf(plus(bigOf(c.s.R), 1))
		for _, x := range []signed{c, other, r, {far, c.h, c.s}, {api.Point{}, c.h, c.s}, {negated(c.q), c.h, c.s}} {
			if x.holds() != x.turned().holds() {
				t.Error(x)
			}
		}
		for _, s := range outside() {
			x := c
			x.s.S = s
			x.check(t, false)
			x.turned().check(t, false)
		}
	}
}

func BenchmarkSign(b *testing.B) {
	h := sha.Sum([]byte("sample"))
	for b.Loop() {
		Sign(secret, h)
	}
}

func BenchmarkVerify(b *testing.B) {
	h := sha.Sum([]byte("sample"))
	s, _ := Sign(secret, h)
	for b.Loop() {
		Verify(secretKey, h, s)
	}
}
