package mac

import (
	"bytes"
	"encoding/hex"
	"math/rand/v2"
	"slices"
	"strings"
	"testing"

	"clapper/api"
	"clapper/sha"
)

// keyLengths lie about the block's length, and about a sum's.
var keyLengths = []int{0, 1, 2, 31, 32, 33, 62, 63, 64, 65, 66, 127, 128, 129, 200, 1000}

// textLengths lie about the ends of blocks, and there are some of many.
var textLengths = []int{0, 1, 2, 54, 55, 56, 57, 63, 64, 65, 119, 120, 128, 1000, 4096, 10007}

// made is n bytes that look unlike each other, the same in each run.
func made(n int, seed uint64) []byte {
	r := rand.New(rand.NewPCG(uint64(n), seed))
	b := make([]byte, n)
	for i := range b {
		b[i] = byte(r.Uint32())
	}
	return b
}

func madeKey(n int) []byte { return made(n, 4) }

func madeText(n int) []byte { return made(n, 5) }

// steps is n bytes, each so much more than the one ahead of it.
func steps(n, first, more int) []byte {
	b := make([]byte, n)
	for i := range b {
		b[i] = byte(first + i*more)
	}
	return b
}

func told(d api.Digest) string { return hex.EncodeToString(d[:]) }

// otherWay lays both texts out whole, and makes their sums at once.
func otherWay(key, text []byte) api.Digest {
	if len(key) > 64 {
		sum := sha.Sum(key)
		key = slices.Clone(sum[:])
	}
	key = slices.Concat(key, bytes.Repeat([]byte{0}, 64-len(key)))
	var outer, inner []byte
	for _, b := range key {
		outer = append(outer, (b|0x5c)-(b&0x5c))
		inner = append(inner, (b|0x36)-(b&0x36))
	}
	sum := sha.Sum(append(inner, text...))
	return sha.Sum(append(outer, sum[:]...))
}

func bytewise(text []byte) [][]byte { return slices.Collect(slices.Chunk(text, 1)) }

// P4.1

func TestOfKnownTexts(t *testing.T) {
	long := bytes.Repeat([]byte{0xaa}, 131)
	for _, c := range []struct {
		key  []byte
		text string
		want string
	}{
		{[]byte("Jefe"), "what do ya want for nothing?",
			"5bdcc146bf60754e6a042426089575c75a003f089d2739839dec58b964ec3843"},
		{bytes.Repeat([]byte{0x0b}, 20), "Hi There",
			"b0344c61d8db38535ca8afceaf0bf12b881dc200c9833da726e9376c2e32cff7"},
		{bytes.Repeat([]byte{0xaa}, 20), strings.Repeat("\xdd", 50),
			"773ea91e36800e46854db8ebd09181a72959098b3ef8c122d9635514ced565fe"},
		{steps(25, 1, 1), strings.Repeat("\xcd", 50),
			"82558a389a443c0ea4cc819899f2083a85f0faa3e578f8077a2e3ff46729665b"},
		{long, "Test Using Larger Than Block-Size Key - Hash Key First",
			"60e431591ee0b67f0d8a26aacbf5b77f8e0bc6213728c5140546040f0ee37f54"},
		{long, "This is a test using a larger than block-size key and a larger than block-size data. The key needs to be hashed before being used by the HMAC algorithm.",
			"9b09ffa71b942fcb27635fbcd5b0e944bfdc63644f0713938a7f51535c3a35e2"},
	} {
		if got := told(Of(c.key, []byte(c.text))); got != c.want {
			t.Error(c.text, got)
		}
	}
}

func TestOfKeysAtTheBlocksEdges(t *testing.T) {
	for _, c := range []struct {
		key, text int
		want      string
	}{
		{0, 0, "b613679a0814d9ec772f95d778c35fc5ff1697c493715653c6c712144292c5ad"},
		{0, 1, "c7059ba64f048cd5bcc942187cea6600ac109093c0a2c15185371595fe60ef6b"},
		{0, 1000, "6634b25a0d609cfb8d74054af2cf24e9615f7aef6baa22f2bf744837fa152dff"},
		{1, 0, "be8d44d01aa938627809668b7364a21ed8e9fc8cffa64d18846d126789d4cef8"},
		{1, 1, "d0c9918673d81e054f55f2491b1442611919bb206b9d788108496c27e8214338"},
		{1, 1000, "d59c7b1192e435974f26707940ffd81906d1d3d25616aac7d776198368591672"},
		{63, 0, "646aefd3a921995422ef7683d9726a66715f7e764d7e2211478f1c19b2ca13c8"},
		{63, 1, "dab1bdc9bfeb71f061244766061c76267653e096d7819e9b813ee5224b315473"},
		{63, 1000, "2972e8aecbe7da975a61d0563f4c15334c8d9a6e442a41d90ca76403a91f236b"},
		{64, 0, "58c7e63111455c2bf96038a7f89d0b8003da9a940571640f70d14f4f3f983fc1"},
		{64, 1, "d1e09c47b30417300ddd492a00f4b635d18cf169b7dc593dc3621dc2651fb1be"},
		{64, 1000, "6b7b3a500b56f408178eacd1e43ee6695ba1f0e94cb571ebecc96597ccec909c"},
		{65, 0, "34bb3ae87adcec2d42a585be6634ffec56e8cf0caac667a4e398ee1e46015c15"},
		{65, 1, "66c217270ada66fbeb10ecefb72ee947563af1187f6daeb9c763358f54e6fe5e"},
		{65, 1000, "ad1c7ed9d4c1cb72aa63b65307d20e3e65972fe4096490540d2a983002d8ef73"},
		{200, 0, "124f0c19ba870c7b73e1e583911fb285fd7513db68f6bb116b1e34a66f4b6181"},
		{200, 1, "8e53f5f17e0bd542eb2917dbff92d582345ee6eb4e5ad9153297c53d759338b5"},
		{200, 1000, "c1a3e6a9b70ab4295c1f5a5ea01da1c4e7994c07b24d7f2af2482ba70888d5db"},
	} {
		if got := told(Of(steps(c.key, 3, 7), steps(c.text, 5, 11))); got != c.want {
			t.Error(c.key, c.text, got)
		}
	}
}

func TestOfIsWhatAnotherWayTells(t *testing.T) {
	for _, k := range keyLengths {
		for _, n := range textLengths {
			for _, fill := range []func(int) []byte{madeText, func(n int) []byte { return make([]byte, n) }} {
				key, text := madeKey(k), fill(n)
				if got, want := Of(key, text), otherWay(key, text); got != want {
					t.Error(k, n, told(got), told(want))
				}
			}
		}
	}
}

func TestOfKeysOfEachLength(t *testing.T) {
	text := madeText(150)
	for k := range 260 {
		for _, key := range [][]byte{madeKey(k), make([]byte, k), bytes.Repeat([]byte{0xff}, k)} {
			if Of(key, text) != otherWay(key, text) {
				t.Error(k)
			}
		}
	}
}

func TestALongKeyStandsForItsSum(t *testing.T) {
	text := madeText(100)
	for _, k := range keyLengths {
		key := madeKey(k)
		sum := sha.Sum(key)
		if alike := Of(key, text) == Of(sum[:], text); alike != (k > 64) {
			t.Error(k, alike)
		}
	}
}

func TestPartsAreOneBehindTheOther(t *testing.T) {
	key, one, two := []byte("Jefe"), []byte("what do ya want "), []byte("for nothing?")
	if got := told(Of(key, one, two)); got != "5bdcc146bf60754e6a042426089575c75a003f089d2739839dec58b964ec3843" {
		t.Error(got)
	}
	if Of(key, two, one) == Of(key, one, two) || Of(key, two) == Of(key, one, two) || Of(key, one) == Of(key, one, two) {
		t.Error("order")
	}
}

func TestTheKeyIsNoPartOfTheText(t *testing.T) {
	if Of([]byte("ab"), []byte("c")) == Of([]byte("a"), []byte("bc")) || Of([]byte("a"), []byte("b")) == Of([]byte("b"), []byte("a")) {
		t.Error("a key and a text are taken for each other")
	}
}

func TestNoKeyHoweverTold(t *testing.T) {
	text := madeText(10)
	if Of(nil, text) != Of([]byte{}, text) {
		t.Error("no key")
	}
}

func TestOfHangsOnNothingThatWasAheadOfIt(t *testing.T) {
	want := Of(madeKey(70), madeText(100))
	Of(madeKey(64), madeText(64))
	if Of(madeKey(70), madeText(100)) != want {
		t.Error("codes know of each other")
	}
}

// eachFlipped is Of's code with each byte changed, one at a time.
func eachFlipped(b []byte, of func() api.Digest) []api.Digest {
	var codes []api.Digest
	for i := range b {
		b[i] ^= 1
		codes = append(codes, of())
		b[i] ^= 1
	}
	return codes
}

func TestOfTellsKeysAndTextsApart(t *testing.T) {
	for _, k := range []int{1, 63, 64, 65, 200} {
		key, text := madeKey(k), madeText(130)
		of := func() api.Digest { return Of(key, text) }
		codes := append(append(eachFlipped(key, of), eachFlipped(text, of)...), of())
		seen := map[api.Digest]int{}
		for i, code := range codes {
			if at, twice := seen[code]; twice {
				t.Error(k, i, at)
			}
			seen[code] = i
		}
	}
}

func TestSameOfAlikeBytes(t *testing.T) {
	for n := range 300 {
		if !Same(madeText(n), madeText(n)) || !Same(make([]byte, n), make([]byte, n)) {
			t.Error(n)
		}
		b := madeText(n)
		if !Same(b, b) {
			t.Error("itself", n)
		}
	}
}

func TestSameOfBytesThatDifferInOneBit(t *testing.T) {
	for _, n := range []int{1, 2, 3, 8, 31, 32, 33, 64, 100} {
		a, b := madeText(n), madeText(n)
		for i := range n {
			for bit := range 8 {
				b[i] ^= 1 << bit
				if Same(a, b) || Same(b, a) {
					t.Error(n, i, bit)
				}
				b[i] ^= 1 << bit
			}
		}
	}
}

func TestSameOfDifferencesThatWouldCancel(t *testing.T) {
	// Alike as sums, as exclusive-ors and as sets of bytes.
	for _, c := range [][2]string{{"ab", "ba"}, {"aa", "bb"}, {"\x01\x03", "\x02\x02"}, {"\x00\x00", "\xff\xff"}, {"\x00\x00", "\x80\x80"}} {
		if Same([]byte(c[0]), []byte(c[1])) {
			t.Errorf("%q", c)
		}
	}
}

func TestSameOfUnlikeLengths(t *testing.T) {
	for _, n := range []int{1, 2, 31, 32, 33, 64, 256, 300} {
		for _, whole := range [][]byte{madeText(n), make([]byte, n)} {
			for cut := range n {
				if Same(whole, whole[:cut]) || Same(whole[:cut], whole) {
					t.Error("beginning", n, cut)
				}
				if Same(whole, whole[n-cut:]) || Same(whole[n-cut:], whole) {
					t.Error("end", n, cut)
				}
			}
		}
	}
}

func TestSameOfNoBytes(t *testing.T) {
	for _, a := range [][]byte{nil, {}} {
		for _, b := range [][]byte{nil, {}} {
			if !Same(a, b) {
				t.Error(a == nil, b == nil)
			}
		}
		if Same(a, []byte{0}) || Same([]byte{0}, a) {
			t.Error("a byte 0 is a byte")
		}
	}
}

func TestSameOfCodes(t *testing.T) {
	a, b, c := Of([]byte("k"), []byte("text")), Of([]byte("k"), []byte("te"), []byte("xt")), Of([]byte("l"), []byte("text"))
	if !Same(a[:], b[:]) || Same(a[:], c[:]) || Same(a[:], b[:31]) {
		t.Error("codes")
	}
}

// P4.2

func TestKeysAndPartsStayAsTheyAre(t *testing.T) {
	for _, k := range keyLengths {
		for _, n := range textLengths {
			// Room behind both shows whether anything is laid there.
			key, text := madeKey(k+130), madeText(n+130)
			parts := [][]byte{text[:n/2], text[n/2 : n], nil, {}, text[:n]}[:4]
			Of(key[:k], parts...)
			if !bytes.Equal(key, madeKey(k+130)) || !bytes.Equal(text, madeText(n+130)) {
				t.Error("bytes", k, n)
			}
			if len(parts[0]) != n/2 || len(parts[1]) != n-n/2 || parts[2] != nil || parts[3] == nil || len(parts[:5][4]) != n {
				t.Error("the list of parts", k, n)
			}
		}
	}
}

func TestWhatIsHeldAgainstEachOtherStaysAsItIs(t *testing.T) {
	for _, n := range textLengths {
		a, b := madeText(n), madeKey(n)
		Same(a, b)
		Same(a, b[:n/2])
		Same(a, a)
		if !bytes.Equal(a, madeText(n)) || !bytes.Equal(b, madeKey(n)) {
			t.Error(n)
		}
	}
}

func TestOneThingAsKeyAndAsParts(t *testing.T) {
	for _, k := range keyLengths {
		b := madeKey(k)
		if Of(b, b, b) != otherWay(madeKey(k), slices.Concat(b, b)) || !bytes.Equal(b, madeKey(k)) {
			t.Error(k)
		}
	}
}

func TestACodeThatWasToldIsTheCallers(t *testing.T) {
	code := Of(madeKey(80), madeText(80))
	code[0] ^= 1
	if Of(madeKey(80), madeText(80)) == code {
		t.Error("changed")
	}
}

// P4.3

func TestNoPartIsATextOfNoBytes(t *testing.T) {
	for _, k := range keyLengths {
		key := madeKey(k)
		want := otherWay(key, nil)
		for i, parts := range [][][]byte{nil, {}, {nil}, {{}}, {nil, {}, nil}} {
			if Of(key, parts...) != want {
				t.Error(k, i)
			}
		}
	}
}

func TestEmptyPartsChangeNothing(t *testing.T) {
	key := madeKey(20)
	for _, n := range textLengths {
		text := madeText(n)
		want := Of(key, text)
		for i, parts := range [][][]byte{
			{nil, text}, {text, nil}, {{}, text, {}}, {nil, {}, text[:n/2], nil, {}, text[n/2:], {}, nil},
		} {
			if Of(key, parts...) != want {
				t.Error(n, i)
			}
		}
	}
}

func TestEveryTwoPartsHaveTheSameCode(t *testing.T) {
	for _, k := range []int{0, 1, 63, 64, 65, 200} {
		for _, n := range []int{0, 1, 55, 56, 63, 64, 65, 128, 200} {
			key, text := madeKey(k), madeText(n)
			want := otherWay(key, text)
			for cut := range n + 1 {
				if Of(key, text[:cut], text[cut:]) != want {
					t.Error(k, n, cut)
				}
			}
		}
	}
}

func TestEveryThreePartsHaveTheSameCode(t *testing.T) {
	key, text := madeKey(33), madeText(66)
	want := Of(key, text)
	for one := range len(text) + 1 {
		for two := one; two <= len(text); two++ {
			if Of(key, text[:one], text[one:two], text[two:]) != want {
				t.Error(one, two)
			}
		}
	}
}

func TestPartsOfEachSizeHaveTheSameCode(t *testing.T) {
	key, text := madeKey(64), madeText(500)
	want := Of(key, text)
	for size := 1; size <= 150; size++ {
		if Of(key, slices.Collect(slices.Chunk(text, size))...) != want {
			t.Error(size)
		}
	}
}

func TestSingleBytesHaveTheSameCode(t *testing.T) {
	for _, n := range textLengths {
		key, text := madeKey(65), madeText(n)
		if Of(key, bytewise(text)...) != Of(key, text) {
			t.Error(n)
		}
	}
}

func TestBytes0BehindAKeyUpToABlock(t *testing.T) {
	text := madeText(77)
	for k := range 65 {
		key := madeKey(k)
		want := Of(key, text)
		for longer := k; longer <= 64; longer++ {
			if Of(append(slices.Clone(key), make([]byte, longer-k)...), text) != want {
				t.Error(k, longer)
			}
		}
	}
}

func TestBytes0BehindAKeyBeyondABlock(t *testing.T) {
	text := madeText(77)
	for k := range 70 {
		key := madeKey(k)
		seen := map[api.Digest]int{Of(key, text): k}
		for longer := max(65, k+1); longer <= 140; longer++ {
			code := Of(append(slices.Clone(key), make([]byte, longer-k)...), text)
			if at, twice := seen[code]; twice {
				t.Error(k, longer, at)
			}
			seen[code] = longer
		}
	}
}

func TestOtherBytesThan0BehindAKeyAreAnotherKey(t *testing.T) {
	text := madeText(77)
	for k := range 64 {
		key := madeKey(k)
		if Of(append(slices.Clone(key), 1), text) == Of(key, text) || Of(append([]byte{0}, key...), text) == Of(key, text) && k > 0 {
			t.Error(k)
		}
	}
}

func BenchmarkOf(b *testing.B) {
	key, text := madeKey(32), madeText(1000)
	for b.Loop() {
		Of(key, text)
	}
}
