package ticket

import (
	"bytes"
	"encoding/binary"
	"encoding/hex"
	"math"
	"math/big"
	"math/rand/v2"
	"slices"
	"strings"
	"testing"

	"clapper/api"
	"clapper/limb"
	"clapper/point"
	"clapper/sha"
	"clapper/sign"
)

const (
	full      = math.MaxUint64
	bodySize  = 55
	wholeSize = 125
)

var (
	order   = hexNum("ffffffff00000000ffffffffffffffffbce6faada7179e84f3b9cac2fc632551")
	secret  = hexNum("c9afa9d845ba75166b5c215767b1d6934e50c3db36e89b127b8a622b120f6721")
	largest = api.Num{full, full, full, full}
	usual   = api.Ticket{Serial: 7, Product: 2, Zones: 3, From: 100, Key: 1}
	least   = api.Ticket{Serial: 1, Product: 1, Zones: 1, From: 0, Key: 1}
	most    = api.Ticket{Serial: 2147483647, Product: 16, Zones: 255, From: 1073741824, Key: 2147483647}
	several = api.Ticket{Serial: 0x01020304, Product: 5, Zones: 0x67, From: 0x08090a0b, Key: 0x0c0d0e0f}
)

func unhex(text string) []byte {
	b, err := hex.DecodeString(strings.Join(strings.Fields(text), ""))
	if err != nil {
		panic(err)
	}
	return b
}

func numOf(b []byte) api.Num {
	a, err := limb.Of(b)
	if err != nil {
		panic(err)
	}
	return a
}

func hexNum(text string) api.Num { return numOf(unhex(text)) }

// orderPlus is n and so many more.
func orderPlus(more int64) api.Num {
	n := new(big.Int).SetBytes(limb.Bytes(order))
	return numOf(n.Add(n, big.NewInt(more)).Bytes())
}

// tickets may all be.
func tickets() []api.Ticket {
	l := []api.Ticket{usual, least, most, several}
	r := rand.New(rand.NewPCG(9, 1))
	for range 4 {
		l = append(l, api.Ticket{
			Serial: 1 + r.IntN(2147483647), Product: 1 + r.IntN(16), Zones: 1 + r.IntN(255),
			From: r.IntN(1073741825), Key: 1 + r.IntN(2147483647),
		})
	}
	return l
}

func numbersOf(t api.Ticket) [5]int { return [5]int{t.Serial, t.Product, t.Zones, t.From, t.Key} }

// with has another number at one of the five places.
func with(t api.Ticket, at, number int) api.Ticket {
	*[]*int{&t.Serial, &t.Product, &t.Zones, &t.From, &t.Key}[at] = number
	return t
}

// ends are the least and the most that each of the five numbers may be.
var ends = [5][2]int{{1, 2147483647}, {1, 16}, {1, 255}, {0, 1073741824}, {1, 2147483647}}

// wrongAt are numbers that may not be at one of the five places: just outside,
// and such as are inside if only some of their bits are looked at.
func wrongAt(at int) []int {
	low, high := ends[at][0], ends[at][1]
	return []int{
		low - 1, low - 2, -1, -2, -high, -high - 1, math.MinInt64, math.MinInt64 + 1, math.MinInt64 + high,
		high + 1, high + 2, 2*high + 2, 1<<32 + low, 1<<32 + high, 1 << 62, math.MaxInt64 - 1, math.MaxInt64,
	}
}

// rightAt are numbers that may be there.
func rightAt(at int) []int {
	low, high := ends[at][0], ends[at][1]
	return []int{low, low + 1, low + 2, (low + high) / 2, high - 2, high - 1, high}
}

// otherMay goes by the ends alone.
func otherMay(t api.Ticket) bool {
	for at, number := range numbersOf(t) {
		if number < ends[at][0] || number > ends[at][1] {
			return false
		}
	}
	return true
}

// value is one field's Tag and Bytes.
type value struct {
	tag int
	b   []byte
}

func laid(l ...value) []byte {
	var b []byte
	for _, v := range l {
		b = binary.BigEndian.AppendUint16(append(b, byte(v.tag)), uint16(len(v.b)))
		b = append(b, v.b...)
	}
	return b
}

func eight(number uint64) []byte { return binary.BigEndian.AppendUint64(nil, number) }

// bodyValues are those of a ticket's body, may it be or not.
func bodyValues(t api.Ticket) []value {
	var l []value
	for at, number := range numbersOf(t) {
		l = append(l, value{at + 1, eight(uint64(number))})
	}
	return l
}

func otherBody(t api.Ticket) []byte { return laid(bodyValues(t)...) }

// wholeOf has those bytes for a body, and for a signature, whatever they are.
func wholeOf(body, signature []byte) []byte { return laid(value{1, body}, value{2, signature}) }

func signatureBytes(s api.Sig) []byte {
	return slices.Concat(limb.Bytes(s.R), limb.Bytes(s.S))
}

// otherWhole is a signed one of a ticket, may it be or not, and a signature,
// may it hold or not.
func otherWhole(t api.Ticket, s api.Sig) []byte { return wholeOf(otherBody(t), signatureBytes(s)) }

// otherOpen takes the numbers from where they stand, and asks whether all else
// is as it is of a signed one.
func otherOpen(b []byte) (api.Ticket, api.Sig, bool) {
	if len(b) != wholeSize {
		return api.Ticket{}, api.Sig{}, false
	}
	var x api.Ticket
	for at := range 5 {
		x = with(x, at, int(binary.BigEndian.Uint64(b[6+11*at:])))
	}
	s := api.Sig{R: numOf(b[61:93]), S: numOf(b[93:])}
	if !otherMay(x) || !bytes.Equal(otherWhole(x, s), b) {
		return api.Ticket{}, api.Sig{}, false
	}
	return x, s, true
}

func mustBody(t *testing.T, x api.Ticket) []byte {
	t.Helper()
	b, err := Body(x)
	if err != nil {
		t.Fatal("Body", x, err)
	}
	return b
}

func mustIssue(t *testing.T, x api.Ticket, d api.Num) []byte {
	t.Helper()
	b, err := Issue(x, d)
	if err != nil {
		t.Fatal("Issue", x, d, err)
	}
	return b
}

func mustKey(t *testing.T, d api.Num) api.Point {
	t.Helper()
	q, err := sign.Public(d)
	if err != nil {
		t.Fatal("Public", d, err)
	}
	return q
}

func opens(t *testing.T, name any, b []byte, want api.Ticket, signature api.Sig) {
	t.Helper()
	if x, s, err := Open(b); x != want || s != signature || err != nil {
		t.Error(name, x, s, err)
	}
}

func checks(t *testing.T, name any, b []byte, q api.Point, want api.Ticket) {
	t.Helper()
	if x, err := Check(b, q); x != want || err != nil {
		t.Error(name, x, err)
	}
}

// isOfNoKey is what opens, and doesn't check with q.
func isOfNoKey(t *testing.T, name any, b []byte, q api.Point) {
	t.Helper()
	if _, _, err := Open(b); err != nil {
		t.Error(name, "opens not", err)
	}
	if x, err := Check(b, q); x != (api.Ticket{}) || err != error(api.ErrKey) {
		t.Error(name, x, err)
	}
}

// isOfNoForm neither opens nor checks, with whatever key.
func isOfNoForm(t *testing.T, name any, b []byte) {
	t.Helper()
	if x, s, err := Open(b); x != (api.Ticket{}) || s != (api.Sig{}) || err != error(api.ErrForm) {
		t.Error(name, "opens", x, s, err)
	}
	for _, q := range []api.Point{point.Base(), {Far: true}, {}} {
		if x, err := Check(b, q); x != (api.Ticket{}) || err != error(api.ErrForm) {
			t.Error(name, "checks", x, err)
		}
	}
}

// mayNotBe has no body, and isn't issued with whatever secret; its bytes don't
// open.
func mayNotBe(t *testing.T, name any, x api.Ticket) {
	t.Helper()
	if May(x) {
		t.Error(name, x, "may")
	}
	if b, err := Body(x); b != nil || err != error(api.ErrArg) {
		t.Error(name, x, b, err)
	}
	for _, d := range []api.Num{{5}, {}, order} {
		if b, err := Issue(x, d); b != nil || err != error(api.ErrArg) {
			t.Error(name, x, d, b, err)
		}
	}
	isOfNoForm(t, name, otherWhole(x, api.Sig{R: api.Num{1}, S: api.Num{1}}))
}

func mayBe(t *testing.T, name any, x api.Ticket) {
	t.Helper()
	if !May(x) {
		t.Error(name, x, "may not")
	}
	if b, err := Body(x); err != nil || !bytes.Equal(b, otherBody(x)) {
		t.Error(name, x, b, err)
	}
	s := api.Sig{R: api.Num{1, 2, 3, 4}, S: api.Num{5, 6, 7, 8}}
	opens(t, name, otherWhole(x, s), x, s)
}

// P9.1

func TestEachNumberAboutItsEnds(t *testing.T) {
	for _, x := range []api.Ticket{usual, least, most} {
		for at := range 5 {
			for _, number := range rightAt(at) {
				mayBe(t, at, with(x, at, number))
			}
			for _, number := range wrongAt(at) {
				mayNotBe(t, at, with(x, at, number))
			}
		}
	}
}

func TestEachProductAndEachZones(t *testing.T) {
	for number := -300; number <= 600; number++ {
		for at := 1; at <= 2; at++ {
			x := with(usual, at, number)
			if May(x) != otherMay(x) {
				t.Error(x)
			}
		}
	}
}

func TestTicketsWithMoreThanOneNumberWrong(t *testing.T) {
	mayNotBe(t, "of no numbers", api.Ticket{})
	mayNotBe(t, "all below", api.Ticket{Serial: -1, Product: -1, Zones: -1, From: -1, Key: -1})
	mayNotBe(t, "all above", api.Ticket{Serial: 1 << 31, Product: 17, Zones: 256, From: 1<<30 + 1, Key: 1 << 31})
	for at := range 5 {
		for other := range 5 {
			if at != other {
				mayNotBe(t, []int{at, other}, with(with(usual, at, ends[at][0]-1), other, ends[other][1]+1))
			}
		}
	}
}

func TestTicketsOfManyKinds(t *testing.T) {
	r := rand.New(rand.NewPCG(9, 2))
	for range 2000 {
		var x api.Ticket
		for at := range 5 {
			l := rightAt(at)
			if r.IntN(8) == 0 {
				l = wrongAt(at)
			}
			x = with(x, at, l[r.IntN(len(l))])
		}
		if May(x) != otherMay(x) {
			t.Error(x)
		}
	}
}

func TestKnownBodies(t *testing.T) {
	for _, c := range knownTickets() {
		if b := mustBody(t, c.ticket); !bytes.Equal(b, c.body) || len(b) != bodySize {
			t.Error(c.ticket, b)
		}
	}
}

// known is a ticket, its body, and the signatures of it by the secrets in
// knownSecrets, as a program outside the project told them.
type known struct {
	ticket     api.Ticket
	body       []byte
	signatures [4][]byte
}

func knownSecrets() [4]api.Num { return [4]api.Num{{5}, {1}, orderPlus(-1), secret} }

func knownTickets() []known {
	return []known{
		{
			usual, unhex(`
				01 00 08 00 00 00 00 00 00 00 07
				02 00 08 00 00 00 00 00 00 00 02
				03 00 08 00 00 00 00 00 00 00 03
				04 00 08 00 00 00 00 00 00 00 64
				05 00 08 00 00 00 00 00 00 00 01`),
			[4][]byte{
				unhex("62f806fdd4b4599220c4b671454761101aa7409d9e5e43fdd9e5673cb9c8bf76ad4d05b11ce02f52631e3d9495d4a7ee0aca86261a469301fed608b5e6faa64d"),
				unhex("4fbd6bccc5ad00da6d1d9d196fbd422b8533876afec957ce68feb3683680ae876f34a3c16252577657a9904f74c14fb2bf8f8e048a6a61104e1b82aaff11a9c0"),
				unhex("121bbde83a8fe82f7af1a9ecf78cf068f8ed12bfda50cf0442b17b0f6f9585248fe2d72ec301d0ad8a5367da5eac75da601c35102a04447ad675eebbc9d71ec4"),
				unhex("2f4eec32d68fc86180682191984037a081e672dedf72717975ccff1e54ef174e353f0a78d3cf25e94a5fb3c42b5b061a40cb8aaab814d3263bd55b9319c523da"),
			},
		},
		{
			least, unhex(`
				01 00 08 00 00 00 00 00 00 00 01
				02 00 08 00 00 00 00 00 00 00 01
				03 00 08 00 00 00 00 00 00 00 01
				04 00 08 00 00 00 00 00 00 00 00
				05 00 08 00 00 00 00 00 00 00 01`),
			[4][]byte{
				unhex("b39b6feb3f1337e097cc55098dc938b7d305a2c8445359c353bbfe9e869d00c31eb8ac86e33fe184fd6991ce795f637073b710a03c503b5eb64b382bbb2de3cb"),
				unhex("90a1f25bdd3c68ed9e414c3db8174b1420df6123b716bbf8320b056046dd8d5812770a5134159c22bfb916b3a2f9e55fc0b5b6b1ae9000ce4fa2353e1c671993"),
				unhex("d5b2ca83f94ebc52fe82fbb408386c2a240faf5e600acb58536555be647d24d4c4b5f6c1e5e61cb3198e5359e8585516cb639414b860c2cf106594e472c57eaf"),
				unhex("65e8fb2ac7722a7ff398626175518824c5188eb7ec92d7e85994db2463632463a8d4a62ad8a6271d43185ffc312bc1f8168aa7567d003843faca6dfa50fa6437"),
			},
		},
		{
			most, unhex(`
				01 00 08 00 00 00 00 7f ff ff ff
				02 00 08 00 00 00 00 00 00 00 10
				03 00 08 00 00 00 00 00 00 00 ff
				04 00 08 00 00 00 00 40 00 00 00
				05 00 08 00 00 00 00 7f ff ff ff`),
			[4][]byte{
				unhex("588dd87d2f2c5be679e6a2ec7941df37213d2a95183acec06886f46e0f2b19a5c37a5bd770dc90d41b0a14e232ef182357da70dc50ead4881a4b7b4d87fc5142"),
				unhex("1d2e1088bf3215d215101d9f5dcf34b56bbe570e52c4739745f94c05648f1f3dcc56827beec6f78375fe482463699a7ae9548125c7b38c9597f48c83c2835928"),
				unhex("34a38d52b9845a47dd60382f1734d20733468efc8f36afe9f6df5d81e9ebb5b01373996839959a5c511e73f873e66eaba5faaba6b3f6e54034477619fec73272"),
				unhex("b0fd9554cea930713fe98f5889ef84d0f923b8c41f7de8d1ce1498668c86b0beedfb6a144332005f9feb0b4ad1631f4faadb86333644bbfffd984246271a3b69"),
			},
		},
		{
			several, unhex(`
				01 00 08 00 00 00 00 01 02 03 04
				02 00 08 00 00 00 00 00 00 00 05
				03 00 08 00 00 00 00 00 00 00 67
				04 00 08 00 00 00 00 08 09 0a 0b
				05 00 08 00 00 00 00 0c 0d 0e 0f`),
			[4][]byte{
				unhex("e3d97060e5d94651afa06ce730abc78d540c71be7954326f94d9887240d496f6ebdc962735d3c17c74841b8506d54dff6a311fb61c7a1b06f10282aa29c5b22a"),
				unhex("9753df6028a766965868bd5045675b174b82025b850c7289756cb32c8cb1cafdf108841c1216aba4c5674f86175b0b36a17305a0c794463ad4a9dd37ea25a3bc"),
				unhex("c0ec7c8d7a203e339b36670fa4ed79b4024681a9f0281b7faed1177d1d4d2363caf6be3596ff6df20cec52ac36f4d0445ae52b1c4442b4a7058f476e4181b2dd"),
				unhex("e3e249364b0000dd7a7de3145513b8578aeb6b9c509b7775a07277958152ea7c107f17c9b70dbcf4188512bbc5573ceb4d197578fc999d9d68775059df69853e"),
			},
		},
	}
}

func TestKnownSignedOnes(t *testing.T) {
	for _, c := range knownTickets() {
		for i, d := range knownSecrets() {
			want := slices.Concat([]byte{1, 0, 55}, c.body, []byte{2, 0, 64}, c.signatures[i])
			if b := mustIssue(t, c.ticket, d); !bytes.Equal(b, want) || len(b) != wholeSize {
				t.Error(c.ticket, d, b)
			}
			opens(t, d, want, c.ticket, api.Sig{R: numOf(c.signatures[i][:32]), S: numOf(c.signatures[i][32:])})
			checks(t, d, want, mustKey(t, d), c.ticket)
		}
	}
}

func TestIssueIsOfSignsSignature(t *testing.T) {
	for _, x := range tickets() {
		for _, d := range []api.Num{{1}, {2}, secret, orderPlus(-2), orderPlus(-1)} {
			s, err := sign.Sign(d, sha.Sum(otherBody(x)))
			if err != nil {
				t.Fatal(err)
			}
			if b := mustIssue(t, x, d); !bytes.Equal(b, otherWhole(x, s)) {
				t.Error(x, d, b)
			}
		}
	}
}

func TestIssueWithWhatIsNoSecret(t *testing.T) {
	for _, d := range []api.Num{{}, orderPlus(0), orderPlus(1), orderPlus(2), orderPlus(1 << 40), {0, 0, 0, full}, largest} {
		for _, x := range tickets() {
			if b, err := Issue(x, d); b != nil || err != error(api.ErrArg) {
				t.Error(x, d, b, err)
			}
		}
	}
}

func TestATicketThatMayNotBeIsIssuedByNobody(t *testing.T) {
	for _, d := range []api.Num{{}, {1}, {5}, secret, orderPlus(-1), orderPlus(0), orderPlus(1), largest} {
		for _, x := range []api.Ticket{{}, with(usual, 0, 0), with(usual, 1, 17), with(usual, 2, 256), with(usual, 3, -1), with(usual, 4, 1<<31)} {
			if b, err := Issue(x, d); b != nil || err != error(api.ErrArg) {
				t.Error(x, d, b, err)
			}
		}
	}
}

// P9.2

func TestNoBytesAreOfNoForm(t *testing.T) {
	isOfNoForm(t, "nil", nil)
	isOfNoForm(t, "empty", []byte{})
	isOfNoForm(t, "with room", mustIssue(t, usual, secret)[:0])
}

func TestOpenOfASignedOneCutOff(t *testing.T) {
	for _, x := range []api.Ticket{usual, most} {
		whole := mustIssue(t, x, secret)
		for at := range whole {
			isOfNoForm(t, at, whole[:at])
			isOfNoForm(t, at, bytes.Clone(whole[:at]))
			isOfNoForm(t, at, whole[at+1:])
		}
	}
}

func TestOpenOfASignedOneWithMore(t *testing.T) {
	whole := mustIssue(t, usual, secret)
	for more := range 256 {
		isOfNoForm(t, more, append(bytes.Clone(whole), byte(more)))
		isOfNoForm(t, more, append([]byte{byte(more)}, whole...))
		isOfNoForm(t, more, append(bytes.Clone(whole), byte(more), 0, 0))
	}
	isOfNoForm(t, "twice", slices.Concat(whole, whole))
	isOfNoForm(t, "many", bytes.Repeat([]byte{1}, 1<<16))
	for at := range whole {
		isOfNoForm(t, at, slices.Insert(bytes.Clone(whole), at, 0))
		isOfNoForm(t, at, slices.Insert(bytes.Clone(whole), at, whole[at]^1))
	}
}

func TestOpenWithEachByteChanged(t *testing.T) {
	for _, x := range []api.Ticket{usual, least, most, several} {
		whole, opened := mustIssue(t, x, secret), 0
		for at := range whole {
			for to := range 256 {
				b := bytes.Clone(whole)
				b[at] = byte(to)
				want, signature, ok := otherOpen(b)
				if !ok {
					isOfNoForm(t, []int{at, to}, b)
					continue
				}
				opens(t, []int{at, to}, b, want, signature)
				opened++
			}
		}
		if opened < 64*256+1000 {
			t.Error("the changes tell little", x, opened)
		}
	}
}

func TestFieldsOfOtherTagsAndCounts(t *testing.T) {
	body, signature := otherBody(usual), signatureBytes(api.Sig{R: api.Num{1}, S: api.Num{2}})
	opens(t, "as it is", wholeOf(body, signature), usual, api.Sig{R: api.Num{1}, S: api.Num{2}})
	for name, b := range map[string][]byte{
		"the body alone":          laid(value{1, body}),
		"the signature alone":     laid(value{2, signature}),
		"the signature as 1":      laid(value{1, signature}),
		"a field 3 more":          laid(value{1, body}, value{2, signature}, value{3, nil}),
		"a field 3 with bytes":    laid(value{1, body}, value{2, signature}, value{3, signature}),
		"a field 255 more":        laid(value{1, body}, value{2, signature}, value{255, nil}),
		"a field 0 ahead":         laid(value{0, nil}, value{1, body}, value{2, signature}),
		"field 1 twice":           laid(value{1, body}, value{1, body}, value{2, signature}),
		"field 2 twice":           laid(value{1, body}, value{2, signature}, value{2, signature}),
		"as 1 and 3":              laid(value{1, body}, value{3, signature}),
		"as 2 and 3":              laid(value{2, body}, value{3, signature}),
		"as 0 and 1":              laid(value{0, body}, value{1, signature}),
		"as 254 and 255":          laid(value{254, body}, value{255, signature}),
		"both as 1":               laid(value{1, body}, value{1, signature}),
		"both as 2":               laid(value{2, body}, value{2, signature}),
		"as 2 and 1":              laid(value{2, body}, value{1, signature}),
		"2 ahead of 1":            laid(value{2, signature}, value{1, body}),
		"1 and 2, one for other":  wholeOf(signature, body),
		"the body for both":       wholeOf(body, body),
		"the signature for both":  wholeOf(signature, signature),
		"no bytes for both":       wholeOf(nil, nil),
		"a whole one for a body":  wholeOf(wholeOf(body, signature), signature),
		"the body's fields alone": body,
		"the signature's bytes":   signature,
	} {
		isOfNoForm(t, name, b)
	}
}

// isNoBody is told of bytes with a signature beside them that may be.
func isNoBody(t *testing.T, name any, body []byte) {
	t.Helper()
	isOfNoForm(t, name, wholeOf(body, signatureBytes(api.Sig{R: api.Num{1}, S: api.Num{2}})))
}

func TestBodiesOfOtherCounts(t *testing.T) {
	l := bodyValues(usual)
	more := eight(1)
	isNoBody(t, "none", nil)
	for many := range 5 {
		isNoBody(t, many, laid(l[:many]...))
	}
	for at := range l {
		isNoBody(t, []any{"left out", at}, laid(slices.Delete(slices.Clone(l), at, at+1)...))
		isNoBody(t, []any{"twice", at}, laid(slices.Insert(slices.Clone(l), at, l[at])...))
	}
	for _, tag := range []int{6, 7, 255} {
		for _, b := range [][]byte{nil, more, otherBody(usual)} {
			isNoBody(t, tag, laid(append(slices.Clone(l), value{tag, b})...))
		}
	}
	isNoBody(t, "0 ahead", laid(append([]value{{0, more}}, l...)...))
	isNoBody(t, "ten", laid(append(slices.Clone(l), value{6, more}, value{7, more}, value{8, more}, value{9, more}, value{10, more})...))
	isNoBody(t, "cut off", otherBody(usual)[:bodySize-1])
	isNoBody(t, "a byte more", append(otherBody(usual), 0))
	isNoBody(t, "a large one", laid(append(slices.Clone(l), value{6, make([]byte, 60000)})...))
}

func TestBodiesOfOtherTags(t *testing.T) {
	for at := range 5 {
		for tag := range 256 {
			if tag == at+1 {
				continue
			}
			l := bodyValues(usual)
			l[at].tag = tag
			isNoBody(t, []int{at, tag}, laid(l...))
		}
	}
	for _, first := range []int{0, 2, 3, 251} {
		l := bodyValues(usual)
		for at := range l {
			l[at].tag = first + at
		}
		isNoBody(t, first, laid(l...))
	}
	for at := range 5 {
		for other := range at {
			l := bodyValues(usual)
			l[at], l[other] = l[other], l[at]
			isNoBody(t, []any{"swapped", at, other}, laid(l...))
		}
	}
}

func TestBodiesWithANumberOfOtherBytes(t *testing.T) {
	for at, number := range numbersOf(usual) {
		zeros := make([]byte, 300)
		ahead, behind := slices.Concat(zeros, eight(uint64(number))), slices.Concat(eight(uint64(number)), zeros)
		for _, many := range []int{0, 1, 2, 3, 4, 5, 6, 7, 9, 10, 16, 256} {
			l := bodyValues(usual)
			l[at].b = ahead[len(ahead)-many:]
			isNoBody(t, []any{"ahead", at, many}, laid(l...))
			l[at].b = behind[:many]
			isNoBody(t, []any{"behind", at, many}, laid(l...))
		}
	}
}

func TestBodiesWithANumberOf2To63AndAbove(t *testing.T) {
	for at := range 5 {
		low := uint64(numbersOf(usual)[at])
		for _, number := range []uint64{1 << 63, 1<<63 + 1, 1<<63 + low, math.MaxUint64, math.MaxUint64 - low + 1, 1<<63 + 1<<62, 1<<63 - 1, 1 << 62, 1<<62 + low, 1<<32 + low} {
			l := bodyValues(usual)
			l[at].b = eight(number)
			isNoBody(t, []any{at, number}, laid(l...))
		}
	}
}

func TestSignaturesOfOtherCounts(t *testing.T) {
	for many := range 300 {
		b := wholeOf(otherBody(usual), bytes.Repeat([]byte{1}, many))
		if many != 64 {
			isOfNoForm(t, many, b)
			continue
		}
		half := numOf(bytes.Repeat([]byte{1}, 32))
		opens(t, many, b, usual, api.Sig{R: half, S: half})
	}
	s := sign.Bytes(api.Sig{R: api.Num{1}, S: api.Num{2}})
	isOfNoForm(t, "63", wholeOf(otherBody(usual), s[:63]))
	isOfNoForm(t, "from the second on", wholeOf(otherBody(usual), s[1:]))
	isOfNoForm(t, "65", wholeOf(otherBody(usual), append(s, 0)))
	isOfNoForm(t, "128", wholeOf(otherBody(usual), slices.Concat(s[:64], s[:64])))
	isOfNoForm(t, "65535", wholeOf(otherBody(usual), make([]byte, 65535)))
}

// outside are numbers that neither R nor S may be.
func outside() []api.Num {
	return []api.Num{{}, orderPlus(0), orderPlus(1), orderPlus(1 << 40), {0, 0, 0, full}, largest}
}

func TestSignaturesThatDontHoldOpen(t *testing.T) {
	q := mustKey(t, secret)
	whole := mustIssue(t, usual, secret)
	_, good, err := Open(whole)
	if err != nil {
		t.Fatal(err)
	}
	wrong := []api.Sig{{R: api.Num{1}, S: api.Num{1}}, {R: good.S, S: good.R}, {R: orderPlus(-1), S: orderPlus(-1)}}
	for _, number := range outside() {
		wrong = append(wrong, api.Sig{R: number, S: good.S}, api.Sig{R: good.R, S: number}, api.Sig{R: number, S: number})
	}
	for _, s := range wrong {
		b := otherWhole(usual, s)
		opens(t, s, b, usual, s)
		isOfNoKey(t, s, b, q)
	}
}

func TestCheckWithOtherKeys(t *testing.T) {
	for _, x := range []api.Ticket{usual, least, most} {
		whole := mustIssue(t, x, secret)
		q := mustKey(t, secret)
		checks(t, x, whole, q, x)
		turned, err := point.Neg(q)
		if err != nil {
			t.Fatal(err)
		}
		for _, other := range []api.Point{
			turned, point.Base(), mustKey(t, api.Num{5}), mustKey(t, orderPlus(-1)),
			{Far: true}, {}, {X: q.X, Y: q.Y, Far: true}, {X: q.Y, Y: q.X}, {X: q.X}, {Y: q.Y},
			{X: q.X, Y: api.Num{q.Y[0] ^ 1, q.Y[1], q.Y[2], q.Y[3]}}, {X: largest, Y: q.Y}, {X: q.X, Y: largest},
		} {
			isOfNoKey(t, other, whole, other)
		}
	}
}

func TestAWrongFormIsToldAheadOfAWrongKey(t *testing.T) {
	whole := mustIssue(t, usual, secret)
	for _, q := range []api.Point{{Far: true}, {}, {X: largest, Y: largest}, point.Base(), mustKey(t, secret)} {
		for _, b := range [][]byte{nil, whole[1:], whole[:124], append(bytes.Clone(whole), 0), otherWhole(with(usual, 0, 0), api.Sig{})} {
			if x, err := Check(b, q); x != (api.Ticket{}) || err != error(api.ErrForm) {
				t.Error(q, len(b), x, err)
			}
		}
	}
}

func TestCheckWithEachByteChanged(t *testing.T) {
	whole, q, opened := mustIssue(t, several, secret), mustKey(t, secret), 0
	for at := range whole {
		for bit := range 8 {
			b := bytes.Clone(whole)
			b[at] ^= 1 << bit
			if _, _, ok := otherOpen(b); !ok {
				isOfNoForm(t, []int{at, bit}, b)
				continue
			}
			isOfNoKey(t, []int{at, bit}, b, q)
			opened++
		}
	}
	if opened < 64*8+100 {
		t.Error("the changes tell little", opened)
	}
}

func TestCheckOfAnotherTicketsSignature(t *testing.T) {
	q, l := mustKey(t, secret), tickets()
	for i, x := range l {
		_, s, err := Open(mustIssue(t, x, secret))
		if err != nil {
			t.Fatal(err)
		}
		other := l[(i+1)%len(l)]
		isOfNoKey(t, other, otherWhole(other, s), q)
		for at := range 5 {
			number := numbersOf(x)[at] + 1
			if number > ends[at][1] {
				number -= 2
			}
			isOfNoKey(t, at, otherWhole(with(x, at, number), s), q)
		}
	}
}

func TestASignatureIsOfTheBodysSumAlone(t *testing.T) {
	q, body := mustKey(t, secret), otherBody(usual)
	for name, h := range map[string]api.Digest{
		"the body without its last": sha.Sum(body[:54]),
		"the body as a field":       sha.Sum(laid(value{1, body})),
		"no bytes":                  sha.Sum(nil),
		"no digest":                 {},
	} {
		s, err := sign.Sign(secret, h)
		if err != nil {
			t.Fatal(err)
		}
		isOfNoKey(t, name, otherWhole(usual, s), q)
	}
	s, err := sign.Sign(secret, sha.Sum(body))
	if err != nil {
		t.Fatal(err)
	}
	checks(t, "the body", otherWhole(usual, s), q, usual)
}

// P9.3

func TestWhatIsHandedInStays(t *testing.T) {
	whole := mustIssue(t, usual, secret)
	for _, b := range [][]byte{
		whole, whole[:124], append(bytes.Clone(whole), 7), {}, otherWhole(api.Ticket{}, api.Sig{}),
		wholeOf(otherBody(usual), make([]byte, 63)), otherWhole(usual, api.Sig{}),
	} {
		handed := append(bytes.Clone(b), "marks"...)
		Open(handed[:len(b)])
		Check(handed[:len(b)], mustKey(t, secret))
		Check(handed[:len(b)], point.Base())
		if string(handed) != string(b)+"marks" {
			t.Error(b, handed)
		}
	}
	x, d, q := usual, secret, mustKey(t, secret)
	May(x)
	Body(x)
	Issue(x, d)
	Check(whole, q)
	if x != usual || d != secret || q != mustKey(t, secret) {
		t.Error(x, d, q)
	}
}

// spoil changes all that a list of bytes holds, and has room for.
func spoil(b []byte) {
	b = b[:cap(b)]
	for i := range b {
		b[i] ^= 0xff
	}
}

func TestWhatWasToldIsTheCallers(t *testing.T) {
	for _, x := range []api.Ticket{usual, least, most} {
		body, whole := mustBody(t, x), mustIssue(t, x, secret)
		want := bytes.Clone(whole)
		spoil(body)
		if !bytes.Equal(mustBody(t, x), otherBody(x)) || !bytes.Equal(whole, want) {
			t.Error("the body", x)
		}
		spoil(whole)
		if !bytes.Equal(mustIssue(t, x, secret), want) || !bytes.Equal(mustBody(t, x), otherBody(x)) {
			t.Error("the signed one", x)
		}
	}
}

func TestWhatWasOpenedHangsNoMoreOnTheBytes(t *testing.T) {
	whole, q := mustIssue(t, usual, secret), mustKey(t, secret)
	want := bytes.Clone(whole)
	x, s, err := Open(whole)
	y, checked := Check(whole, q)
	spoil(whole)
	if err != nil || checked != nil || x != usual || y != usual || !bytes.Equal(otherWhole(x, s), want) {
		t.Error(x, s, y, err, checked)
	}
	isOfNoForm(t, "spoilt", whole)
	checks(t, "again", want, q, usual)
}

func TestWhatWasToldStaysWhenMoreIsTold(t *testing.T) {
	body, whole := mustBody(t, usual), mustIssue(t, usual, secret)
	wasBody, wasWhole := bytes.Clone(body), bytes.Clone(whole)
	mustBody(t, most)
	mustIssue(t, most, api.Num{5})
	Issue(api.Ticket{}, secret)
	Check(mustIssue(t, least, secret), point.Base())
	if !bytes.Equal(body, wasBody) || !bytes.Equal(whole, wasWhole) {
		t.Error(body, whole)
	}
}

// P9.4

func TestWhatWasIssuedChecks(t *testing.T) {
	for _, x := range tickets() {
		for _, d := range []api.Num{{1}, {2}, {5}, secret, orderPlus(-2), orderPlus(-1)} {
			b := mustIssue(t, x, d)
			checks(t, d, b, mustKey(t, d), x)
			got, s, err := Open(b)
			if err != nil || got != x {
				t.Error(x, d, got, err)
			}
			if !sign.Verify(mustKey(t, d), sha.Sum(otherBody(x)), s) {
				t.Error(x, d, s)
			}
		}
	}
}

func TestWhatOpensHasJustThoseBytes(t *testing.T) {
	r := rand.New(rand.NewPCG(9, 3))
	opened := 0
	for i := range 3000 {
		l := tickets()
		b := otherWhole(l[i%len(l)], api.Sig{R: api.Num{r.Uint64(), r.Uint64(), r.Uint64(), r.Uint64()}, S: api.Num{r.Uint64(), 0, 0, r.Uint64()}})
		for range r.IntN(3) {
			b[r.IntN(len(b))] = byte(r.IntN(256))
		}
		x, s, err := Open(b)
		if err != nil {
			isOfNoForm(t, i, b)
			continue
		}
		opened++
		body := mustBody(t, x)
		if !bytes.Equal(wholeOf(body, sign.Bytes(s)), b) || !bytes.Equal(body, b[3:58]) || !May(x) {
			t.Error(i, x, s)
		}
	}
	if opened < 500 || opened > 2900 {
		t.Error("the bytes tell little", opened)
	}
}

func TestTheSameBytesAgain(t *testing.T) {
	for _, x := range tickets() {
		b := mustIssue(t, x, secret)
		got, s, err := Open(b)
		if err != nil || !bytes.Equal(otherWhole(got, s), b) || !bytes.Equal(mustIssue(t, got, secret), b) {
			t.Error(x, got, s, err)
		}
	}
}

func TestASignatureTurnedChecksAsTheSameTicket(t *testing.T) {
	q, whole := mustKey(t, secret), mustIssue(t, usual, secret)
	_, s, err := Open(whole)
	if err != nil {
		t.Fatal(err)
	}
	s.S, _ = limb.Sub(order, s.S)
	b := otherWhole(usual, s)
	if bytes.Equal(b, whole) {
		t.Fatal("not turned")
	}
	opens(t, "turned", b, usual, s)
	checks(t, "turned", b, q, usual)
}

// P1

func FuzzOpen(f *testing.F) {
	for _, c := range knownTickets() {
		whole := wholeOf(c.body, c.signatures[0])
		f.Add(whole)
		f.Add(whole[:len(whole)-1])
		f.Add(c.body)
	}
	f.Fuzz(func(t *testing.T, b []byte) {
		want, signature, ok := otherOpen(b)
		if !ok {
			isOfNoForm(t, b, b)
			return
		}
		opens(t, b, b, want, signature)
		if x, err := Check(b, point.Base()); err == nil && x != want {
			t.Error(b, x)
		}
	})
}
