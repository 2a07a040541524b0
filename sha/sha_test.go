package sha

import (
	"bytes"
	"encoding/binary"
	"encoding/hex"
	"math/big"
	"math/rand/v2"
	"slices"
	"strings"
	"testing"

	"clapper/api"
)

// edges are the lengths about which the padding turns over, and some of many blocks.
var edges = []int{0, 1, 2, 54, 55, 56, 57, 62, 63, 64, 65, 118, 119, 120, 121, 127, 128, 129, 183, 184, 192, 1000, 4096, 6400, 10007}

// rootBits are the first 32 bits behind the point of a prime's root: of that
// the standard makes its words, so that none of them is copied here.
func rootBits(prime int64, cube bool) uint32 {
	root := 2
	if cube {
		root = 3
	}
	target := new(big.Int).Lsh(big.NewInt(prime), uint(32*root))
	low, high := big.NewInt(0), new(big.Int).Lsh(big.NewInt(prime), 32)
	for low.Cmp(high) < 0 {
		middle := new(big.Int).Add(low, high)
		middle.Add(middle, big.NewInt(1)).Rsh(middle, 1)
		if new(big.Int).Exp(middle, big.NewInt(int64(root)), nil).Cmp(target) <= 0 {
			low = middle
		} else {
			high = middle.Sub(middle, big.NewInt(1))
		}
	}
	return uint32(low.Uint64())
}

func primes(n int) []int64 {
	var l []int64
	for p := int64(2); len(l) < n; p++ {
		if !slices.ContainsFunc(l, func(q int64) bool { return p%q == 0 }) {
			l = append(l, p)
		}
	}
	return l
}

func turn(x uint32, n uint) uint32 { return x>>n | x<<(32-n) }

// otherWay pads the whole text, and goes bit by bit where the standard does.
type otherWay struct{ first, added []uint32 }

func newOtherWay() otherWay {
	var o otherWay
	for i, p := range primes(64) {
		if i < 8 {
			o.first = append(o.first, rootBits(p, false))
		}
		o.added = append(o.added, rootBits(p, true))
	}
	return o
}

func (o otherWay) sum(text []byte) api.Digest {
	padded := append(slices.Clone(text), 0x80)
	for len(padded)%64 != 56 {
		padded = append(padded, 0)
	}
	padded = binary.BigEndian.AppendUint64(padded, uint64(len(text))*8)
	state := slices.Clone(o.first)
	for block := range slices.Chunk(padded, 64) {
		v := slices.Clone(state)
		for t, w := range spread(block) {
			v = o.step(v, t, w)
		}
		for i := range state {
			state[i] += v[i]
		}
	}
	var sum []byte
	for _, w := range state {
		sum = binary.BigEndian.AppendUint32(sum, w)
	}
	return api.Digest(sum)
}

func spread(block []byte) []uint32 {
	var w []uint32
	for i := 0; i < 64; i += 4 {
		w = append(w, binary.BigEndian.Uint32(block[i:]))
	}
	for t := 16; t < 64; t++ {
		x, y := w[t-2], w[t-15]
		s1 := turn(x, 17) ^ turn(x, 19) ^ x>>10
		s0 := turn(y, 7) ^ turn(y, 18) ^ y>>3
		w = append(w, s1+w[t-7]+s0+w[t-16])
	}
	return w
}

func (o otherWay) step(v []uint32, t int, w uint32) []uint32 {
	var choice, majority uint32
	for i := range 32 {
		bit := func(k int) uint32 { return v[k] >> i & 1 }
		chosen := bit(6)
		if bit(4) == 1 {
			chosen = bit(5)
		}
		choice |= chosen << i
		majority |= (bit(0) + bit(1) + bit(2)) / 2 << i
	}
	e, a := v[4], v[0]
	t1 := v[7] + (turn(e, 6) ^ turn(e, 11) ^ turn(e, 25)) + choice + o.added[t] + w
	t2 := (turn(a, 2) ^ turn(a, 13) ^ turn(a, 22)) + majority
	return []uint32{t1 + t2, v[0], v[1], v[2], v[3] + t1, v[4], v[5], v[6]}
}

// made is a text of n bytes that look unlike each other, the same in each run.
func made(n int) []byte {
	r := rand.New(rand.NewPCG(uint64(n), 3))
	text := make([]byte, n)
	for i := range text {
		text[i] = byte(r.Uint32())
	}
	return text
}

// steps is a text of n bytes that begins with n and goes on by sevens.
func steps(n int) []byte {
	text := make([]byte, n)
	for i := range text {
		text[i] = byte(i*7 + n)
	}
	return text
}

func told(d api.Digest) string { return hex.EncodeToString(d[:]) }

func written(parts ...[]byte) *Hash {
	h := New()
	for _, p := range parts {
		h.Write(p)
	}
	return h
}

// P3.1

func TestSumOfKnownTexts(t *testing.T) {
	for _, c := range []struct{ text, want string }{
		{"", "e3b0c44298fc1c149afbf4c8996fb92427ae41e4649b934ca495991b7852b855"},
		{"abc", "ba7816bf8f01cfea414140de5dae2223b00361a396177a9cb410ff61f20015ad"},
		{"abcdbcdecdefdefgefghfghighijhijkijkljklmklmnlmnomnopnopq", "248d6a61d20638b8e5c026930c3e6039a33ce45964ff2167f6ecedd419db06c1"},
		{strings.Repeat("a", 1000000), "cdc76e5c9914fb9281a1c7e284d73e67f1809a48a497200e046d39ccc7112cd0"},
	} {
		if got := told(Sum([]byte(c.text))); got != c.want {
			t.Error(len(c.text), got)
		}
	}
}

func TestSumAtThePaddingsEdges(t *testing.T) {
	for _, c := range []struct {
		length int
		want   string
	}{
		{0, "e3b0c44298fc1c149afbf4c8996fb92427ae41e4649b934ca495991b7852b855"},
		{1, "4bf5122f344554c53bde2ebb8cd2b7e3d1600ad631c385a5d7cce23c7785459a"},
		{55, "81afe5b788dc2ce138ff83d9b20164db75a94d75d2b2432eea4a0ef605088c72"},
		{56, "2aba54f0ac632420a2b502431408866e40e1d5e430df4cd822642c78ab2eb9c1"},
		{63, "733d3d4ee79ee67145bf73da13588f6f235d37414fc64b14a2f00f1762792f5e"},
		{64, "79322907b3e9d013d7dc2c2f256674dbf733045cde01df3539271c6f5605feb8"},
		{65, "d85c007c6eb440f085afa2b84f6f2bce4658b240e9f62cb1364bf0485a57e720"},
		{119, "6c87eedf096b345de205b702e5223b73b447a3207791ded3ea007ba15ed6736e"},
		{120, "42500cf6a1e3936d6b9e0bcfe296d654b63255e525487d3634d0b15fde591c4d"},
		{128, "489d55fea9a73af36b6dd0be7b4117d8e5683386d39544e8a44c99a87f368707"},
		{1000, "6b0df76627243d095b0c4400cb658b7e804dd03461cc03aee8fc8fe0bcada168"},
		{6400, "527f806af3841db69d0a391df8494d995d57e4fb3676fe5ffdc07de43ab67afc"},
	} {
		if got := told(Sum(steps(c.length))); got != c.want {
			t.Error(c.length, got)
		}
	}
}

func TestSumIsWhatAnotherWayTells(t *testing.T) {
	other := newOtherWay()
	lengths := slices.Clone(edges)
	for n := range 260 {
		lengths = append(lengths, n)
	}
	for _, n := range lengths {
		for _, text := range [][]byte{made(n), make([]byte, n), bytes.Repeat([]byte{0xff}, n)} {
			if got, want := Sum(text), other.sum(text); got != want {
				t.Error(n, told(got), told(want))
			}
		}
	}
}

func TestSumOfNoBytesHoweverTold(t *testing.T) {
	if Sum(nil) != Sum([]byte{}) || Sum(nil) != New().Sum() {
		t.Error("no bytes")
	}
}

func TestSumHangsOnNothingThatWasAheadOfIt(t *testing.T) {
	want := Sum(made(100))
	Sum(made(200))
	written(made(77)).Sum()
	if Sum(made(100)) != want {
		t.Error("sums know of each other")
	}
}

func TestSumTellsTextsApart(t *testing.T) {
	text := made(130)
	sums := map[api.Digest]int{Sum(text): -1}
	for i := range text {
		text[i] ^= 1
		sum := Sum(text)
		if at, twice := sums[sum]; twice {
			t.Error(i, at)
		}
		sums[sum] = i
		text[i] ^= 1
	}
}

// P3.2

func TestNewIsAHashToWhichNothingWasWritten(t *testing.T) {
	h := New()
	if h.Len() != 0 || told(h.Sum()) != "e3b0c44298fc1c149afbf4c8996fb92427ae41e4649b934ca495991b7852b855" {
		t.Error(h.Len(), told(h.Sum()))
	}
	h.Write(made(70))
	if g := New(); g.Len() != 0 || g.Sum() != Sum(nil) {
		t.Error("hashes know of each other")
	}
}

func TestLenIsHowManyBytesWereWritten(t *testing.T) {
	h, all := New(), 0
	for _, n := range edges {
		h.Write(made(n))
		all += n
		if h.Len() != all {
			t.Error(n, h.Len(), all)
		}
		if h.Sum(); h.Len() != all {
			t.Error("a sum has counted", n, h.Len(), all)
		}
	}
}

func TestWriteIsBehindAll(t *testing.T) {
	if written([]byte("ab"), []byte("c")).Sum() != Sum([]byte("abc")) {
		t.Error("abc")
	}
	if written([]byte("c"), []byte("ab")).Sum() == Sum([]byte("abc")) {
		t.Error("cab")
	}
}

func TestMoreMayBeWrittenBehindASum(t *testing.T) {
	for _, n := range edges {
		for _, m := range []int{0, 1, 8, 55, 56, 64, 200} {
			text := made(n + m)
			h := written(text[:n])
			for range 2 {
				if h.Sum() != Sum(text[:n]) {
					t.Error("ahead", n, m)
				}
			}
			h.Write(text[n:])
			if h.Sum() != Sum(text) || h.Len() != n+m {
				t.Error("behind", n, m, h.Len())
			}
		}
	}
}

func TestASumAtEachByte(t *testing.T) {
	text, h := made(200), New()
	for i, b := range text {
		if h.Sum() != Sum(text[:i]) {
			t.Error(i)
		}
		h.Write([]byte{b})
	}
}

func TestACloneAndItsOriginGoTheirOwnWays(t *testing.T) {
	for _, n := range edges {
		for _, m := range []int{1, 9, 63, 64, 65, 200} {
			text, one, two := made(n), steps(m), made(m+1)
			h := written(text)
			g := h.Clone()
			if g == h || g.Sum() != h.Sum() || g.Len() != n {
				t.Error("alike", n, m)
			}
			g.Write(one)
			if h.Sum() != Sum(text) || h.Len() != n {
				t.Error("the origin has changed", n, m)
			}
			h.Write(two)
			if g.Sum() != Sum(slices.Concat(text, one)) || g.Len() != n+m {
				t.Error("clone", n, m)
			}
			if h.Sum() != Sum(slices.Concat(text, two)) || h.Len() != n+m+1 {
				t.Error("origin", n, m)
			}
		}
	}
}

func TestACloneOfAClone(t *testing.T) {
	h := written([]byte("a"))
	g := h.Clone().Clone()
	g.Write([]byte("bc"))
	if g.Sum() != Sum([]byte("abc")) || h.Sum() != Sum([]byte("a")) {
		t.Error(told(g.Sum()), told(h.Sum()))
	}
}

// P3.3

func TestWhatIsHandedInStaysAsItIs(t *testing.T) {
	for _, n := range edges {
		// Room behind the text's end shows whether the padding is laid there.
		room := made(n + 130)
		text := room[:n]
		Sum(text)
		h := written(text)
		h.Sum()
		h.Clone().Write(text)
		if !bytes.Equal(room, made(n+130)) {
			t.Error(n)
		}
	}
}

func TestWhatIsHandedInIsNotKept(t *testing.T) {
	for _, n := range edges {
		text := made(n)
		want := Sum(text)
		h := written(text)
		g := h.Clone()
		for i := range text {
			text[i] ^= 0xff
		}
		if h.Sum() != want || g.Sum() != want {
			t.Error(n)
		}
	}
}

func TestOneBufferForAllParts(t *testing.T) {
	text, h := made(1000), New()
	buffer := make([]byte, 37)
	for part := range slices.Chunk(text, len(buffer)) {
		h.Write(buffer[:copy(buffer, part)])
	}
	if h.Sum() != Sum(text) {
		t.Error(told(h.Sum()))
	}
}

func TestASumThatWasToldIsTheCallers(t *testing.T) {
	h := written(made(80))
	sum := h.Sum()
	sum[0] ^= 1
	if h.Sum() != Sum(made(80)) {
		t.Error("changed")
	}
}

// P3.4

func TestEveryTwoPartsMakeTheSameSum(t *testing.T) {
	for _, n := range []int{0, 1, 55, 56, 63, 64, 65, 119, 120, 128, 300} {
		text := made(n)
		want := Sum(text)
		for cut := range n + 1 {
			if h := written(text[:cut], text[cut:]); h.Sum() != want || h.Len() != n {
				t.Error(n, cut)
			}
		}
	}
}

func TestPartsOfEachSizeMakeTheSameSum(t *testing.T) {
	text := made(700)
	want := Sum(text)
	for size := 1; size <= 200; size++ {
		if written(slices.Collect(slices.Chunk(text, size))...).Sum() != want {
			t.Error(size)
		}
	}
}

func TestSingleBytesWithEmptyPartsBetweenMakeTheSameSum(t *testing.T) {
	for _, n := range edges {
		text := made(n)
		single, spaced := New(), written(nil, []byte{})
		for i := range text {
			single.Write(text[i : i+1])
			spaced.Write(text[i : i+1])
			spaced.Write([]byte{})
			spaced.Write(nil)
		}
		if single.Sum() != Sum(text) || spaced.Sum() != Sum(text) || spaced.Len() != n {
			t.Error(n, single.Len(), spaced.Len())
		}
	}
}

func TestPartsOfAllSortsMakeTheSameSum(t *testing.T) {
	r := rand.New(rand.NewPCG(3, 4))
	text := made(2000)
	want := Sum(text)
	for range 200 {
		h := New()
		for from := 0; from < len(text); {
			size := min(r.IntN(150), len(text)-from)
			h.Write(text[from : from+size])
			from += size
		}
		if h.Sum() != want {
			t.Error(told(h.Sum()))
		}
	}
}

func BenchmarkSum(b *testing.B) {
	text := made(1 << 16)
	b.SetBytes(int64(len(text)))
	for b.Loop() {
		Sum(text)
	}
}

func BenchmarkSumOfOneBlock(b *testing.B) {
	text := made(50)
	for b.Loop() {
		Sum(text)
	}
}
