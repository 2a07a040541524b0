package nonce

import (
	"bytes"
	"math"
	"math/big"
	"math/rand/v2"
	"slices"
	"testing"

	"clapper/api"
	"clapper/sha"
)

const full = math.MaxUint64

var (
	largest = api.Num{full, full, full, full}
	order   = hexBig("ffffffff00000000ffffffffffffffffbce6faada7179e84f3b9cac2fc632551")
	// secret is the one of RFC 6979, A.2.5.
	secret = hexNum("c9afa9d845ba75166b5c215767b1d6934e50c3db36e89b127b8a622b120f6721")
)

func hexBig(text string) *big.Int {
	x, ok := new(big.Int).SetString(text, 16)
	if !ok {
		panic(text)
	}
	return x
}

// numOf and bigOf go another way than the layers below do, so that the tests
// don't lean on what they test.
func numOf(x *big.Int) api.Num {
	var a api.Num
	rest, word := new(big.Int).Set(x), new(big.Int).SetUint64(full)
	for i := range a {
		a[i] = new(big.Int).And(rest, word).Uint64()
		rest.Rsh(rest, 64)
	}
	return a
}

func bigOf(a api.Num) *big.Int {
	x := new(big.Int)
	for _, w := range slices.Backward(a[:]) {
		x.Lsh(x, 64)
		x.Or(x, new(big.Int).SetUint64(w))
	}
	return x
}

func hexNum(text string) api.Num { return numOf(hexBig(text)) }

// digestOf is the digest whose number x is.
func digestOf(x *big.Int) api.Digest { return api.Digest(x.FillBytes(make([]byte, 32))) }

func hexDigest(text string) api.Digest { return digestOf(hexBig(text)) }

// orderPlus is n and so many more.
func orderPlus(more int64) *big.Int { return new(big.Int).Add(order, big.NewInt(more)) }

// secrets are some from 1 to n - 1, both ends among them.
func secrets() []api.Num {
	l := []api.Num{
		{1}, {2}, {0xff}, {full}, {0, 1}, {0, 0, 0, 1}, secret,
		numOf(new(big.Int).Rsh(order, 1)), numOf(orderPlus(-2)), numOf(orderPlus(-1)),
	}
	r := rand.New(rand.NewPCG(6, 1))
	for range 5 {
		l = append(l, api.Num{r.Uint64(), r.Uint64(), r.Uint64(), r.Uint64() >> 1})
	}
	return l
}

// outside are 0, and some from n on: neither secrets nor candidates.
func outside() []api.Num {
	l := []api.Num{{}, numOf(order), largest, {full - 1, full, full, full}, {0, 0, 0, full}}
	for _, more := range []int64{1, 2, 1 << 40} {
		l = append(l, numOf(orderPlus(more)))
	}
	for i := range 3 {
		above := numOf(order)
		above[i] = full
		l = append(l, above)
	}
	return l
}

// digests have numbers below n, n itself, and above it up to 2^256 - 1.
func digests() []api.Digest {
	l := []api.Digest{
		{}, {31: 1}, {0: 1}, {0: 0x80}, sha.Sum([]byte("sample")), sha.Sum([]byte("test")), rare, digestOf(bigOf(largest)),
	}
	for _, more := range []int64{-2, -1, 0, 1, 2, 1 << 40} {
		l = append(l, digestOf(orderPlus(more)))
	}
	return l
}

// code is a text's with a key of 32 bytes, laid out whole.
func code(key, text []byte) []byte {
	outer, inner := bytes.Repeat([]byte{0x5c}, 64), bytes.Repeat([]byte{0x36}, 64)
	for i, b := range key {
		outer[i] ^= b
		inner[i] ^= b
	}
	sum := sha.Sum(append(inner, text...))
	sum = sha.Sum(append(outer, sum[:]...))
	return sum[:]
}

// otherNumbers are the first so many numbers, by the chapter's steps one by one.
func otherNumbers(d api.Num, h api.Digest, many int) []*big.Int {
	secret := bigOf(d).FillBytes(make([]byte, 32))
	rest := new(big.Int).SetBytes(h[:])
	m := rest.Mod(rest, order).FillBytes(make([]byte, 32))
	v, k := bytes.Repeat([]byte{1}, 32), make([]byte, 32)
	k = code(k, slices.Concat(v, []byte{0}, secret, m))
	v = code(k, v)
	k = code(k, slices.Concat(v, []byte{1}, secret, m))
	v = code(k, v)
	var l []*big.Int
	for range many {
		v = code(k, v)
		l = append(l, new(big.Int).SetBytes(v))
		k = code(k, slices.Concat(v, []byte{0}))
		v = code(k, v)
	}
	return l
}

func mayBe(x *big.Int) bool { return x.Sign() > 0 && x.Cmp(order) < 0 }

// otherList is the first candidates of those numbers.
func otherList(d api.Num, h api.Digest, many int) []api.Num {
	var l []api.Num
	for _, x := range otherNumbers(d, h, many+2) {
		if mayBe(x) && len(l) < many {
			l = append(l, numOf(x))
		}
	}
	return l
}

func mustList(t *testing.T, d api.Num, h api.Digest, many int) []api.Num {
	t.Helper()
	l, err := List(d, h, many)
	if err != nil || len(l) != many {
		t.Fatal(d, h, many, l, err)
	}
	return l
}

func refused(t *testing.T, d api.Num, h api.Digest, many int) {
	t.Helper()
	if l, err := List(d, h, many); l != nil || err != api.ErrArg {
		t.Error(d, h, many, l, err)
	}
}

// P6.1

func TestListOfKnownTexts(t *testing.T) {
	for _, c := range []struct{ text, first, second, last string }{
		{
			"sample",
			"a6e3c57dd01abe90086538398355dd4c3b17aa873382b0f24d6129493d8aad60",
			"8e83dc490bc5fc4d5992bd63cd87f254adffcb930f8a8011702a88870f638fdb",
			"61b9a8647df0879e4ee47e6f3d247767d969c749d5f510116f2d6a164ef7b5d8",
		},
		{
			"test",
			"d16b6ae827f17175e040871a1c7ec3500192c4c92677336ec2537acaee0008e0",
			"ed6fc87dcb558274e84d7d3799f12f8f279c07fa5301a7cd33f0ad9866cd8ca0",
			"56ca78a6841298f6405082a62e0da3e443d787c3ed14548181abc3b069856183",
		},
	} {
		l := mustList(t, secret, sha.Sum([]byte(c.text)), 16)
		if l[0] != hexNum(c.first) || l[1] != hexNum(c.second) || l[15] != hexNum(c.last) {
			t.Error(c.text, l)
		}
	}
}

func TestListOfKnownEdges(t *testing.T) {
	const (
		half  = "7fffffff800000007fffffffffffffffde737d56d38bcf4279dce5617e3192a8"
		below = "ffffffff00000000ffffffffffffffffbce6faada7179e84f3b9cac2fc632550"
		n     = "ffffffff00000000ffffffffffffffffbce6faada7179e84f3b9cac2fc632551"
		above = "ffffffff00000000ffffffffffffffffbce6faada7179e84f3b9cac2fc632552"
		most  = "ffffffffffffffffffffffffffffffffffffffffffffffffffffffffffffffff"
	)
	for _, c := range []struct{ d, h, first, second string }{
		{"1", "0", "010497d369b3d525ca15ec29c104a694210bb59ff6cabfc10afe6df0283896df", "a9b1a1a84a4c2f96b6158ed7a81404c50cb74373c22e8d9e02d0411d719acae2"},
		{"1", "1", "9a409dab05968059da3efb323dc67c96f234571b965fd39810ca0643fbb795ac", "a5074d0289fa4705a77f1759eed53d1c19991cecbd2286b05a77cd1bd1cc81d3"},
		{"1", below, "e5fdb68ef1f1f63a564d6229d9dfdc11ce322cd5a12c94562e45978ac1f82c0f", "d28e82e6158f55e3ec331356dddb2c33564c51b61179d7303c7e08375f64a17d"},
		{"1", n, "010497d369b3d525ca15ec29c104a694210bb59ff6cabfc10afe6df0283896df", "a9b1a1a84a4c2f96b6158ed7a81404c50cb74373c22e8d9e02d0411d719acae2"},
		{"1", above, "9a409dab05968059da3efb323dc67c96f234571b965fd39810ca0643fbb795ac", "a5074d0289fa4705a77f1759eed53d1c19991cecbd2286b05a77cd1bd1cc81d3"},
		{"1", most, "16b6f004792e0a0070d85082beced594e19c5ebbdb8b9871d635be5a72708462", "ba82b29ddcc47c68e52994309c529554da0993716a9155a27512285fef569c9c"},
		{half, "0", "ca74fb850d560b1bc43c7458cf0f455787471615390e976447512821eb4a185e", "f16baa09a976a79f48ef29daf565c343ea23c47f216ffa9b21e54dc741f55380"},
		{half, below, "5ac27cfa9e50a6e49cd952001faa6ab6bb55113ca14198521d119f4fbde69947", "0473b33c65a28d32cac0b56f3ed1f385b976a309bc2632662effcb1d67a45b0f"},
		{half, most, "2631cc684d1b07106ae150b34766f5c7662392c47ed801cf1ccacd10dc7fbec2", "614abfe252692847fb45e495ce01f4c7e21285c53540986d4673f780fa43ccd8"},
		{below, "0", "eda39d24c5c3a78b77e2047f810c321d2d2c9cf97bb5ccb082134df048360a2b", "cd3db893dbd7d9fc359b2f0a14a214f087efb17707cc17233c3cbbb2b4543b12"},
		{below, "1", "82c4a8832818ba2e2d8a5f6f94febb5bd3d934abe7a3a743a4810f7f25062fcc", "43707a8f70df3ee9193ec667969d9cb3f2e6fb1db052f3cb5597731507e6e0c3"},
		{below, below, "59b31ab9376945abf5a772978fb09677c59bf6d34c04f73130afbc64736a9aaa", "30521ccf0aeba33eb86a78826f0de1002037212e911a2b09863e43ace0eeb457"},
		{below, n, "eda39d24c5c3a78b77e2047f810c321d2d2c9cf97bb5ccb082134df048360a2b", "cd3db893dbd7d9fc359b2f0a14a214f087efb17707cc17233c3cbbb2b4543b12"},
		{below, above, "82c4a8832818ba2e2d8a5f6f94febb5bd3d934abe7a3a743a4810f7f25062fcc", "43707a8f70df3ee9193ec667969d9cb3f2e6fb1db052f3cb5597731507e6e0c3"},
		{below, most, "c33ec9d61033842314a95b87b3a25f5b6ab05b3f55d356cf83c4fd1901bbf69c", "490dffd751da0650901383c3a4a27f39b7c65b42da26b0bd0737646250db41b6"},
	} {
		l := mustList(t, hexNum(c.d), hexDigest(c.h), 2)
		if l[0] != hexNum(c.first) || l[1] != hexNum(c.second) {
			t.Error(c.d, c.h, l)
		}
	}
}

func TestListIsWhatTheChaptersStepsTell(t *testing.T) {
	for _, d := range secrets() {
		for _, h := range digests() {
			if got, want := mustList(t, d, h, 16), otherList(d, h, 16); !slices.Equal(got, want) {
				t.Error(d, h, got, want)
			}
		}
	}
}

func TestListOfManySecretsAndDigests(t *testing.T) {
	r := rand.New(rand.NewPCG(6, 2))
	for i := range 200 {
		rest := new(big.Int).Mod(bigOf(api.Num{r.Uint64(), r.Uint64(), r.Uint64(), r.Uint64()}), order)
		h := digestOf(bigOf(api.Num{r.Uint64(), r.Uint64(), r.Uint64(), r.Uint64()}))
		d, many := numOf(rest), 1+i%16
		if got, want := mustList(t, d, h, many), otherList(d, h, many); !slices.Equal(got, want) {
			t.Error(d, h, got, want)
		}
	}
}

func TestWhatIsNoSecretIsNoArgument(t *testing.T) {
	for _, d := range outside() {
		for _, h := range []api.Digest{{}, sha.Sum([]byte("sample")), digestOf(order)} {
			for _, many := range []int{math.MinInt, -1, 0, 1, 2, 16, 17, math.MaxInt} {
				refused(t, d, h, many)
			}
		}
	}
}

func TestHowManyThatMayNotBe(t *testing.T) {
	for _, d := range secrets() {
		for _, many := range []int{
			math.MinInt, math.MinInt + 1, math.MinInt32, -17, -16, -2, -1,
			17, 18, 99, 100, 101, 256, 1 << 16, math.MaxInt32, 1 << 32, 1<<32 + 1, 1<<32 + 16, math.MaxInt,
		} {
			refused(t, d, sha.Sum([]byte("sample")), many)
			refused(t, d, api.Digest{}, many)
		}
	}
}

func TestHowManyAtTheEdges(t *testing.T) {
	for _, d := range secrets() {
		for _, h := range digests() {
			for _, many := range []int{0, 1, 15, 16} {
				mustList(t, d, h, many)
			}
		}
	}
}

func TestTheNumberOfADigestIsModuloN(t *testing.T) {
	most := new(big.Int).Sub(bigOf(largest), order)
	for _, x := range []*big.Int{big.NewInt(0), big.NewInt(1), big.NewInt(2), big.NewInt(1 << 40), most} {
		above := new(big.Int).Add(x, order)
		for _, d := range secrets() {
			if !slices.Equal(mustList(t, d, digestOf(x), 16), mustList(t, d, digestOf(above), 16)) {
				t.Error(d, x)
			}
		}
	}
}

func TestListTellsSecretsAndDigestsApart(t *testing.T) {
	seen := map[api.Num]int{}
	note := func(l []api.Num, from int) {
		for _, a := range l {
			if at, twice := seen[a]; twice {
				t.Error(a, at, from)
			}
			seen[a] = from
		}
	}
	h := sha.Sum([]byte("sample"))
	note(mustList(t, secret, h, 16), -1)
	for i := range 256 {
		d, other := secret, h
		d[i/64] ^= 1 << (i % 64)
		other[i/8] ^= 1 << (i % 8)
		note(mustList(t, d, h, 16), i)
		note(mustList(t, secret, other, 16), 256+i)
	}
}

func TestTheSecretAndTheDigestAreNotTakenForEachOther(t *testing.T) {
	h := sha.Sum([]byte("sample"))
	swapped := numOf(new(big.Int).SetBytes(h[:]))
	if mustList(t, secret, h, 1)[0] == mustList(t, swapped, digestOf(bigOf(secret)), 1)[0] {
		t.Error("the same")
	}
}

func TestListHangsOnNothingThatWasAheadOfIt(t *testing.T) {
	h := sha.Sum([]byte("sample"))
	want := mustList(t, secret, h, 16)
	mustList(t, api.Num{1}, h, 3)
	refused(t, api.Num{}, h, 1)
	refused(t, secret, h, 17)
	if !slices.Equal(mustList(t, secret, h, 16), want) {
		t.Error("calls know of each other")
	}
}

// rare is a digest whose sixth number, with the secret, is n at least. One in
// some 2^32 numbers is: this one was found by trying one digest after another.
var rare = hexDigest("197eee88")

func TestListLeavesOutTheNumberThatIsNoCandidate(t *testing.T) {
	numbers := otherNumbers(secret, rare, 17)
	if mayBe(numbers[5]) {
		t.Fatal(numbers[5])
	}
	var want []api.Num
	for _, x := range slices.Delete(numbers, 5, 6) {
		want = append(want, numOf(x))
	}
	if got := mustList(t, secret, rare, 16); !slices.Equal(got, want) {
		t.Error(got)
	}
}

func TestListOfKnownNumbersBesideOneThatIsNoCandidate(t *testing.T) {
	l := mustList(t, secret, rare, 16)
	for i, want := range map[int]string{
		4:  "d9361b388c7b1108e37e7faa02bb241ccbb9b6012908de0ae4f761144a8f9a8a",
		5:  "8900a207345de929a7f1f7ac6cd0b0de711b13265e9983386d37838fd9247216",
		6:  "6fb37f1468d3d99f5b0545e114d321555f6ba1633436ab4b4f7158f6f27fa27b",
		15: "427d5215329c3eaa47db621aadff994e26a12c56532e0e1ebbc462140a6fba54",
	} {
		if l[i] != hexNum(want) {
			t.Error(i, l[i])
		}
	}
}

// oneByOne tells numbers, and at their end counts how many more are asked for.
func oneByOne(numbers []api.Num, more *int) func() api.Num {
	i := 0
	return func() api.Num {
		if i == len(numbers) {
			*more++
			return api.Num{}
		}
		i++
		return numbers[i-1]
	}
}

// numbersWith are so many that are no candidates, and behind them candidates.
func numbersWith(none, many int) []api.Num {
	var l []api.Num
	wrong := outside()
	for i := range none {
		l = append(l, wrong[i%len(wrong)])
	}
	for i := range many {
		l = append(l, api.Num{uint64(i) + 1})
	}
	return l
}

func TestFirstOfLeavesOutWhatIsNoCandidate(t *testing.T) {
	candidates := []api.Num{{1}, {2}, {0, 1}, numOf(orderPlus(-1)), numOf(orderPlus(-2)), {1}}
	var numbers []api.Num
	for i, a := range candidates {
		numbers = append(numbers, outside()[:i]...)
		numbers = append(numbers, a)
	}
	for many := range len(candidates) + 1 {
		more := 0
		l, err := firstOf(oneByOne(numbers, &more), many)
		if err != nil || !slices.Equal(l, candidates[:many]) || more != 0 {
			t.Error(many, l, err, more)
		}
	}
}

func TestAHundredNumbersAreLookedAt(t *testing.T) {
	for many := 1; many <= 16; many++ {
		want := numbersWith(0, many)
		for none := range 130 {
			numbers, more := numbersWith(none, many), 0
			l, err := firstOf(oneByOne(numbers, &more), many)
			if enough := none+many <= 100; enough && (err != nil || !slices.Equal(l, want)) {
				t.Error(none, many, l, err)
			} else if !enough && (err != api.ErrNone || l != nil) {
				t.Error(none, many, l, err)
			}
		}
	}
}

func TestNoCandidatesAreAlwaysThere(t *testing.T) {
	more := 0
	if l, err := firstOf(oneByOne(nil, &more), 0); err != nil || len(l) != 0 {
		t.Error(l, err)
	}
	if l, err := firstOf(oneByOne(nil, &more), 1); err != api.ErrNone || l != nil {
		t.Error(l, err)
	}
}

// P6.2

func TestWhatIsHandedInStays(t *testing.T) {
	for _, many := range []int{-1, 0, 1, 16, 17} {
		d, h := secret, sha.Sum([]byte("sample"))
		List(d, h, many)
		if d != secret || h != sha.Sum([]byte("sample")) {
			t.Error(many, d, h)
		}
	}
}

func TestCandidatesThatWereToldAreTheCallers(t *testing.T) {
	h := sha.Sum([]byte("sample"))
	for many := range 17 {
		first, second := mustList(t, secret, h, many), mustList(t, secret, h, many)
		clear(first)
		_ = append(first, largest)
		_ = append(first[:0], secret)
		third := mustList(t, secret, h, many)
		if want := otherList(secret, h, many); !slices.Equal(second, want) || !slices.Equal(third, want) {
			t.Error(many, second, third)
		}
	}
}

// P6.3

func TestFewerAreTheFirstOnesOfMore(t *testing.T) {
	for _, d := range secrets() {
		for _, h := range digests() {
			most := mustList(t, d, h, 16)
			for many := range 17 {
				if got := mustList(t, d, h, many); !slices.Equal(got, most[:many]) {
					t.Error(d, h, many, got)
				}
			}
		}
	}
}

func TestEachCandidateIsASecret(t *testing.T) {
	for _, d := range secrets() {
		for _, h := range digests() {
			for _, a := range mustList(t, d, h, 16) {
				if !mayBe(bigOf(a)) {
					t.Error(d, h, a)
				}
				mustList(t, a, h, 1)
			}
		}
	}
}

func BenchmarkList(b *testing.B) {
	h := sha.Sum([]byte("sample"))
	for b.Loop() {
		List(secret, h, 16)
	}
}
