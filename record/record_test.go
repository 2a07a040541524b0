package record

import (
	"bytes"
	"encoding/binary"
	"encoding/hex"
	"math"
	"math/big"
	"math/rand/v2"
	"slices"
	"strings"
	"testing"

	"clapper/api"
	"clapper/limb"
	"clapper/point"
	"clapper/sha"
	"clapper/sign"
)

const (
	full  = math.MaxUint64
	frame = 196 // bytes of a signed one beside those of field 10
)

var (
	order   = hexNum("ffffffff00000000ffffffffffffffffbce6faada7179e84f3b9cac2fc632551")
	secret  = hexNum("c9afa9d845ba75166b5c215767b1d6934e50c3db36e89b127b8a622b120f6721")
	largest = api.Num{full, full, full, full}

	inspect = api.Record{Device: 3, Seq: 1, At: 100, Kind: 1, Stop: 2, Zone: 4, Serial: 9, Verdict: 5, Prev: api.Digest{1, 2, 3}, Bytes: []byte("shown")}
	notice  = api.Record{Device: 3, Seq: 2, At: 101, Kind: 2, Stop: 2, Zone: 4, Serial: 1, Prev: api.Digest{4, 5, 6}}
	void    = api.Record{Device: 3, Seq: 3, At: 102, Kind: 3, Stop: 2, Zone: 4, Serial: 2, Prev: api.Digest{7, 8, 9}}
	least   = api.Record{Device: 1, Kind: 1, Verdict: 1}
	most    = api.Record{
		Device: 2147483647, Seq: 1073741824, At: 1073741824, Kind: 1, Stop: 31, Zone: 7, Serial: 2147483647, Verdict: 7,
		Prev: api.Digest(counting(32)), Bytes: sevens(500),
	}
	lowNotice = api.Record{Device: 1, Kind: 2}
	highVoid  = api.Record{Device: 2147483647, Seq: 1073741824, At: 1073741824, Kind: 3, Stop: 31, Zone: 7, Serial: 2147483647, Prev: api.Digest(bytes.Repeat([]byte{255}, 32))}
	anySign   = api.Sig{R: api.Num{1, 2, 3, 4}, S: api.Num{5, 6, 7, 8}}
)

// counting is 0, 1, 2 and so on.
func counting(many int) []byte {
	b := make([]byte, many)
	for i := range b {
		b[i] = byte(i)
	}
	return b
}

// sevens is 1, 8, 15 and so on.
func sevens(many int) []byte {
	b := make([]byte, many)
	for i := range b {
		b[i] = byte(7*i + 1)
	}
	return b
}

func unhex(text string) []byte {
	b, err := hex.DecodeString(strings.Join(strings.Fields(text), ""))
	if err != nil {
		panic(err)
	}
	return b
}

func numOf(b []byte) api.Num {
	a, err := limb.Of(b)
	if err != nil {
		panic(err)
	}
	return a
}

func hexNum(text string) api.Num { return numOf(unhex(text)) }

// orderPlus is n and so many more.
func orderPlus(more int64) api.Num {
	n := new(big.Int).SetBytes(limb.Bytes(order))
	return numOf(n.Add(n, big.NewInt(more)).Bytes())
}

// madeRecord may be, and is of no kind that the last one was of.
func madeRecord(r *rand.Rand) api.Record {
	x := api.Record{
		Device: 1 + r.IntN(2147483647), Seq: r.IntN(1073741825), At: r.IntN(1073741825), Kind: 1 + r.IntN(3),
		Stop: r.IntN(32), Zone: r.IntN(8), Serial: r.IntN(2147483648),
	}
	for i := range x.Prev {
		x.Prev[i] = byte(r.IntN(256))
	}
	if x.Kind == 1 {
		x.Verdict, x.Bytes = 1+r.IntN(7), sevens(r.IntN(501))
	}
	return x
}

// records may all be.
func records() []api.Record {
	l := []api.Record{inspect, notice, void, least, most, lowNotice, highVoid}
	r := rand.New(rand.NewPCG(17, 1))
	for range 4 {
		l = append(l, madeRecord(r))
	}
	return l
}

func same(a, b api.Record) bool {
	return numbersOf(a) == numbersOf(b) && a.Prev == b.Prev && bytes.Equal(a.Bytes, b.Bytes)
}

func isZero(r api.Record) bool { return same(r, api.Record{}) }

// clone shares no memory with r.
func clone(r api.Record) api.Record {
	r.Bytes = bytes.Clone(r.Bytes)
	return r
}

func numbersOf(r api.Record) [8]int {
	return [8]int{r.Device, r.Seq, r.At, r.Kind, r.Stop, r.Zone, r.Serial, r.Verdict}
}

const (
	atKind    = 3
	atVerdict = 7
)

// with has another number at one of the eight places.
func with(r api.Record, at, number int) api.Record {
	*[]*int{&r.Device, &r.Seq, &r.At, &r.Kind, &r.Stop, &r.Zone, &r.Serial, &r.Verdict}[at] = number
	return r
}

func withBytes(r api.Record, b []byte) api.Record {
	r.Bytes = b
	return r
}

func withPrev(r api.Record, prev api.Digest) api.Record {
	r.Prev = prev
	return r
}

// endsOf are the least and the most that each of the eight numbers of a
// record of that kind may be.
func endsOf(kind int) [8][2]int {
	ends := [8][2]int{{1, 2147483647}, {0, 1073741824}, {0, 1073741824}, {1, 3}, {0, 31}, {0, 7}, {0, 2147483647}, {0, 0}}
	if kind == 1 {
		ends[atVerdict] = [2]int{1, 7}
	}
	return ends
}

// wrongAt are numbers that may not be at one of the eight places: just
// outside, and such as are inside if only some of their bits are looked at.
func wrongAt(kind, at int) []int {
	low, high := endsOf(kind)[at][0], endsOf(kind)[at][1]
	return []int{
		low - 1, low - 2, -1, -2, -high - 1, -high - 2, math.MinInt64, math.MinInt64 + 1, math.MinInt64 + high,
		high + 1, high + 2, 2*high + 2, 1<<32 + low, 1<<32 + high, 1 << 62, math.MaxInt64 - 1, math.MaxInt64,
	}
}

// rightAt are numbers that may be there.
func rightAt(kind, at int) []int {
	low, high := endsOf(kind)[at][0], endsOf(kind)[at][1]
	if low == high {
		return []int{low}
	}
	return []int{low, low + 1, (low + high) / 2, high - 1, high}
}

// otherMay goes by the ends alone.
func otherMay(r api.Record) bool {
	for at, number := range numbersOf(r) {
		if ends := endsOf(r.Kind)[at]; number < ends[0] || number > ends[1] {
			return false
		}
	}
	shown := 0
	if r.Kind == 1 {
		shown = 500
	}
	return len(r.Bytes) <= shown
}

// value is one field's Tag and Bytes.
type value struct {
	tag int
	b   []byte
}

func laid(l ...value) []byte {
	var b []byte
	for _, v := range l {
		b = binary.BigEndian.AppendUint16(append(b, byte(v.tag)), uint16(len(v.b)))
		b = append(b, v.b...)
	}
	return b
}

func eight(number uint64) []byte { return binary.BigEndian.AppendUint64(nil, number) }

// bodyValues are those of a record's body, may it be or not.
func bodyValues(r api.Record) []value {
	var l []value
	for at, number := range numbersOf(r) {
		l = append(l, value{at + 1, eight(uint64(number))})
	}
	return append(l, value{9, r.Prev[:]}, value{10, r.Bytes})
}

func otherBody(r api.Record) []byte { return laid(bodyValues(r)...) }

// wholeOf has those bytes for a body, and for a signature, whatever they are.
func wholeOf(body, signature []byte) []byte { return laid(value{1, body}, value{2, signature}) }

func signatureBytes(s api.Sig) []byte { return slices.Concat(limb.Bytes(s.R), limb.Bytes(s.S)) }

// otherWhole is a signed one of a record, may it be or not, and a signature,
// may it hold or not.
func otherWhole(r api.Record, s api.Sig) []byte { return wholeOf(otherBody(r), signatureBytes(s)) }

// otherIssue signs without asking whether the record may be.
func otherIssue(t *testing.T, r api.Record, d api.Num) []byte {
	t.Helper()
	s, err := sign.Sign(d, sha.Sum(otherBody(r)))
	if err != nil {
		t.Fatal("Sign", d, err)
	}
	return otherWhole(r, s)
}

// otherOpen takes the numbers from where they stand, and asks whether all else
// is as it is of a signed one.
func otherOpen(b []byte) (api.Record, api.Digest, api.Sig, bool) {
	if len(b) < frame || len(b) > frame+500 {
		return api.Record{}, api.Digest{}, api.Sig{}, false
	}
	shown := len(b) - frame
	var x api.Record
	for at := range 8 {
		x = with(x, at, int(binary.BigEndian.Uint64(b[6+11*at:])))
	}
	x.Prev, x.Bytes = api.Digest(b[94:126]), bytes.Clone(b[129:129+shown])
	s := api.Sig{R: numOf(b[132+shown : 164+shown]), S: numOf(b[164+shown:])}
	if !otherMay(x) || !bytes.Equal(otherWhole(x, s), b) {
		return api.Record{}, api.Digest{}, api.Sig{}, false
	}
	return x, sha.Sum(b[3 : 129+shown]), s, true
}

func mustBody(t *testing.T, r api.Record) []byte {
	t.Helper()
	b, err := Body(r)
	if err != nil {
		t.Fatal("Body", r, err)
	}
	return b
}

func mustIssue(t *testing.T, r api.Record, d api.Num) []byte {
	t.Helper()
	b, err := Issue(r, d)
	if err != nil {
		t.Fatal("Issue", r, d, err)
	}
	return b
}

func mustKey(t *testing.T, d api.Num) api.Point {
	t.Helper()
	q, err := sign.Public(d)
	if err != nil {
		t.Fatal("Public", d, err)
	}
	return q
}

func mustOpen(t *testing.T, b []byte) (api.Record, api.Digest, api.Sig) {
	t.Helper()
	r, link, s, err := Open(b)
	if err != nil {
		t.Fatal("Open", b, err)
	}
	return r, link, s
}

func opens(t *testing.T, name any, b []byte, want api.Record, signature api.Sig) {
	t.Helper()
	r, link, s, err := Open(b)
	if !same(r, want) || link != sha.Sum(otherBody(want)) || s != signature || err != nil {
		t.Error(name, r, link, s, err)
	}
}

func checks(t *testing.T, name any, b []byte, q api.Point, want api.Record) {
	t.Helper()
	if r, err := Check(b, q); !same(r, want) || err != nil {
		t.Error(name, r, err)
	}
}

// isOfNoKey is what opens, and doesn't check with q.
func isOfNoKey(t *testing.T, name any, b []byte, q api.Point) {
	t.Helper()
	if _, _, _, err := Open(b); err != nil {
		t.Error(name, "opens not", err)
	}
	if r, err := Check(b, q); !isZero(r) || err != error(api.ErrKey) {
		t.Error(name, r, err)
	}
}

// isOfNoForm neither opens nor checks, with whatever key, and is in no chain.
func isOfNoForm(t *testing.T, name any, b []byte) {
	t.Helper()
	if r, link, s, err := Open(b); !isZero(r) || link != (api.Digest{}) || s != (api.Sig{}) || err != error(api.ErrForm) {
		t.Error(name, "opens", r, link, s, err)
	}
	for _, q := range []api.Point{point.Base(), {Far: true}, {}} {
		if r, err := Check(b, q); !isZero(r) || err != error(api.ErrForm) {
			t.Error(name, "checks", r, err)
		}
	}
	if many := Chain([][]byte{b}, 3, point.Base()); many != 0 {
		t.Error(name, "is a chain")
	}
}

// mayNotBe has no body, and isn't issued with whatever secret; its bytes don't
// open.
func mayNotBe(t *testing.T, name any, r api.Record) {
	t.Helper()
	if May(r) {
		t.Error(name, r, "may")
	}
	if b, err := Body(r); b != nil || err != error(api.ErrArg) {
		t.Error(name, r, b, err)
	}
	for _, d := range []api.Num{{5}, {}, order} {
		if b, err := Issue(r, d); b != nil || err != error(api.ErrArg) {
			t.Error(name, r, d, b, err)
		}
	}
	isOfNoForm(t, name, otherWhole(r, anySign))
}

func mayBe(t *testing.T, name any, r api.Record) {
	t.Helper()
	if !May(r) {
		t.Error(name, r, "may not")
	}
	if b, err := Body(r); err != nil || !bytes.Equal(b, otherBody(r)) {
		t.Error(name, r, b, err)
	}
	opens(t, name, otherWhole(r, anySign), r, anySign)
}

// P17.1: which records may be.

func TestEachNumberAboutItsEnds(t *testing.T) {
	for _, r := range []api.Record{inspect, notice, void, least, most, lowNotice, highVoid} {
		mayBe(t, "as it is", r)
		for at := range 8 {
			if at == atKind {
				continue // the other kinds ask for other Verdicts
			}
			for _, number := range rightAt(r.Kind, at) {
				mayBe(t, at, with(r, at, number))
			}
			for _, number := range wrongAt(r.Kind, at) {
				if number != 0 || endsOf(r.Kind)[at][0] > 0 {
					mayNotBe(t, at, with(r, at, number))
				}
			}
		}
	}
}

func TestTheEdgesThatTheChapterNames(t *testing.T) {
	for _, c := range []struct {
		at           int
		right, wrong []int
	}{
		{0, []int{1, 2147483647}, []int{0, 2147483648}},
		{1, []int{0, 1073741824}, []int{-1, 1073741825}},
		{2, []int{0, 1073741824}, []int{-1, 1073741825}},
		{4, []int{0, 31}, []int{-1, 32}},
		{5, []int{0, 7}, []int{-1, 8}},
		{6, []int{0, 2147483647}, []int{-1, 2147483648}},
	} {
		for _, r := range []api.Record{inspect, notice, void} {
			for _, number := range c.right {
				mayBe(t, c.at, with(r, c.at, number))
			}
			for _, number := range c.wrong {
				mayNotBe(t, c.at, with(r, c.at, number))
			}
		}
	}
}

func TestEachKind(t *testing.T) {
	for kind := -300; kind <= 600; kind++ {
		for _, verdict := range []int{0, 1, 7} {
			r := api.Record{Device: 3, Kind: kind, Verdict: verdict}
			want := kind == 1 && verdict > 0 || (kind == 2 || kind == 3) && verdict == 0
			if May(r) != want {
				t.Error(kind, verdict)
			}
		}
	}
	for _, kind := range []int{0, 4, -1, 5, math.MinInt64, math.MaxInt64, math.MinInt64 + 1, math.MinInt64 + 2, 1<<32 + 1, 1<<32 + 2, 257, 258} {
		for _, r := range []api.Record{inspect, notice, void, withBytes(inspect, nil)} {
			mayNotBe(t, kind, with(r, atKind, kind))
		}
	}
}

func TestARecordOfAnotherKindAlone(t *testing.T) {
	mayNotBe(t, "an Inspect as a Notice", with(inspect, atKind, 2))
	mayNotBe(t, "an Inspect as a Void", with(inspect, atKind, 3))
	mayNotBe(t, "a Notice as an Inspect", with(notice, atKind, 1))
	mayNotBe(t, "a Void as an Inspect", with(void, atKind, 1))
	mayBe(t, "a Notice as a Void", with(notice, atKind, 3))
	mayBe(t, "a Void as a Notice", with(void, atKind, 2))
}

func TestEachVerdict(t *testing.T) {
	for verdict := -10; verdict <= 300; verdict++ {
		r := with(inspect, atVerdict, verdict)
		if verdict >= 1 && verdict <= 7 {
			mayBe(t, verdict, r)
		} else {
			mayNotBe(t, verdict, r)
		}
		for _, other := range []api.Record{notice, void} {
			if verdict == 0 {
				mayBe(t, verdict, with(other, atVerdict, verdict))
			} else {
				mayNotBe(t, verdict, with(other, atVerdict, verdict))
			}
		}
	}
}

func TestBytesOfEachLength(t *testing.T) {
	for many := range 700 {
		r := withBytes(inspect, sevens(many))
		if many <= 500 {
			mayBe(t, many, r)
		} else {
			mayNotBe(t, many, r)
		}
	}
	for _, many := range []int{756, 757, 1000, 2000, 65000} {
		mayNotBe(t, many, withBytes(inspect, make([]byte, many)))
	}
	for _, r := range []api.Record{notice, void, lowNotice, highVoid} {
		mayBe(t, "nil", withBytes(r, nil))
		mayBe(t, "empty", withBytes(r, []byte{}))
		mayBe(t, "empty, with room", withBytes(r, make([]byte, 0, 9)))
		for _, many := range []int{1, 2, 8, 255, 256, 499, 500, 501, 512} {
			mayNotBe(t, many, withBytes(r, make([]byte, many)))
		}
	}
	mayBe(t, "nil", withBytes(inspect, nil))
	mayBe(t, "as many as there is room for more", withBytes(inspect, make([]byte, 500, 9000)))
}

func TestFarTooManyBytes(t *testing.T) {
	b := make([]byte, 1<<16+3)
	for _, many := range []int{65535, 65536, 65537, 65536 + 3} {
		for _, r := range []api.Record{inspect, notice, void} {
			r = withBytes(r, b[:many])
			if May(r) {
				t.Error(many, r.Kind)
			}
			if body, err := Body(r); body != nil || err != error(api.ErrArg) {
				t.Error(many, r.Kind, err)
			}
			if whole, err := Issue(r, secret); whole != nil || err != error(api.ErrArg) {
				t.Error(many, r.Kind, err)
			}
		}
	}
}

func TestPrevMayBeAny32Bytes(t *testing.T) {
	l := []api.Digest{{}, api.Digest(counting(32)), api.Digest(bytes.Repeat([]byte{255}, 32))}
	for i := range 256 {
		var prev api.Digest
		prev[i/8] = 1 << (i % 8)
		l = append(l, prev, api.Digest(bytes.Repeat([]byte{byte(i)}, 32)))
	}
	for i, prev := range l {
		for _, r := range []api.Record{inspect, notice, void, least} {
			mayBe(t, i, withPrev(r, prev))
		}
	}
}

func TestRecordsWithMoreThanOneThingWrong(t *testing.T) {
	mayNotBe(t, "of nothing", api.Record{})
	mayNotBe(t, "all below", api.Record{Device: 0, Seq: -1, At: -1, Kind: 0, Stop: -1, Zone: -1, Serial: -1, Verdict: -1})
	mayNotBe(t, "all above", api.Record{Device: 1 << 31, Seq: 1<<30 + 1, At: 1<<30 + 1, Kind: 4, Stop: 32, Zone: 8, Serial: 1 << 31, Verdict: 8, Bytes: make([]byte, 501)})
	for at := range 8 {
		for other := range 8 {
			if at != other {
				ends := endsOf(1)
				mayNotBe(t, []int{at, other}, with(with(inspect, at, ends[at][0]-1), other, ends[other][1]+1))
			}
		}
	}
}

func TestRecordsOfManyKinds(t *testing.T) {
	r := rand.New(rand.NewPCG(17, 2))
	may := 0
	for range 20000 {
		x := madeRecord(r)
		for at := range 8 {
			switch r.IntN(40) {
			case 0:
				l := wrongAt(x.Kind, at)
				x = with(x, at, l[r.IntN(len(l))])
			case 1, 2, 3:
				l := rightAt(x.Kind, at)
				x = with(x, at, l[r.IntN(len(l))])
			}
		}
		if r.IntN(10) == 0 {
			x.Bytes = make([]byte, r.IntN(3)*r.IntN(300))
		}
		if May(x) != otherMay(x) {
			t.Error(x)
		}
		if May(x) {
			may++
		}
	}
	if may < 5000 || may > 18000 {
		t.Error("the records tell little", may)
	}
}

// P17.1: what their bodies are, and what is issued.

// known is a record, its body and its link, and the signatures of it by the
// secrets in knownSecrets, as a program outside the project told them.
type known struct {
	record     api.Record
	body       []byte
	link       api.Digest
	signatures [3][]byte
}

func knownSecrets() [3]api.Num { return [3]api.Num{{5}, secret, orderPlus(-1)} }

// knownChain is five of a chain of device 3, of each kind, whose Inspects have
// none, one and the most Bytes.
func knownChain() []known {
	l := append(knownInspects(), knownNotice(), knownVoid())
	for i := range l {
		if i > 0 {
			l[i].record.Prev = l[i-1].link
		}
	}
	return l
}

func knownInspects() []known {
	return []known{
		{
			api.Record{Device: 3, Kind: 1, Verdict: 1}, unhex(`
				01 00 08 00 00 00 00 00 00 00 03
				02 00 08 00 00 00 00 00 00 00 00
				03 00 08 00 00 00 00 00 00 00 00
				04 00 08 00 00 00 00 00 00 00 01
				05 00 08 00 00 00 00 00 00 00 00
				06 00 08 00 00 00 00 00 00 00 00
				07 00 08 00 00 00 00 00 00 00 00
				08 00 08 00 00 00 00 00 00 00 01
				09 00 20 00 00 00 00 00 00 00 00 00 00 00 00 00 00 00 00 00 00 00 00 00 00 00 00 00 00 00 00 00 00 00 00
				0a 00 00`),
			api.Digest(unhex("301766eaf31a4ae5d84ef3bea7d939561910e6477d7a7fa2f3279acbb20ede79")),
			[3][]byte{
				unhex("fe411968434fde594a2bc558e4b5edcdb92b0877db7889e605ea420a46aa53ceef4526e516c0cb8efae650e4ab8f8a014184f57174cf12f8941ba7b0f1ecf35f"),
				unhex("b9c7cbff7e944804a2a0d6db9cdceda73f3afc110985f94c41cc5b9fbc9fe46c4a03ae588014bb955d702bc2cf6404878ef9b5af053ab565a01a172c55437432"),
				unhex("596481234d885da017941eaf49e3881cfe2c1c176a8841450a01fead1856fd6a4d4ddb84dec854d0a7e8708d4c6c14ab8db92c1668743b65d929f72e31925662"),
			},
		},
		{
			api.Record{Device: 3, Seq: 1, At: 100, Kind: 1, Stop: 31, Zone: 7, Serial: 2147483647, Verdict: 7, Bytes: []byte("a")}, unhex(`
				01 00 08 00 00 00 00 00 00 00 03
				02 00 08 00 00 00 00 00 00 00 01
				03 00 08 00 00 00 00 00 00 00 64
				04 00 08 00 00 00 00 00 00 00 01
				05 00 08 00 00 00 00 00 00 00 1f
				06 00 08 00 00 00 00 00 00 00 07
				07 00 08 00 00 00 00 7f ff ff ff
				08 00 08 00 00 00 00 00 00 00 07
				09 00 20 30 17 66 ea f3 1a 4a e5 d8 4e f3 be a7 d9 39 56 19 10 e6 47 7d 7a 7f a2 f3 27 9a cb b2 0e de 79
				0a 00 01 61`),
			api.Digest(unhex("c823d7a72b3e7aa4a6bcb33a9f31a922c0063ce86cca43da9cb331f39e777c8c")),
			[3][]byte{
				unhex("14e277c19eaacc1240eb357e43e56e0d3013d33daac7a613aab13dfd09e3d3f79af5330799551c4d9bb9b0d0e5aba075120eca6cd14daa354fa73ecbb5b9a7a3"),
				unhex("c56ba17f4a14eb3505b3a75a3afb853dbdc1f8e36dc24a7a0fbd2e351c19a9a86c243eb7bb9abe71a1b480040e70db0e1d26def66cfe1a84f0b3c2619f587802"),
				unhex("cf96c27930c9caa4d3e5d24d13b3251ff6d569c701dba06904b280b8176a946698221ed40a99800fdca8b186e736bdc129b8b4700d8fa741a4a3a8097495f157"),
			},
		},
		{
			api.Record{Device: 3, Seq: 2, At: 0x01020304, Kind: 1, Stop: 5, Zone: 6, Serial: 0x0708090a, Verdict: 2, Bytes: sevens(500)}, append(unhex(`
				01 00 08 00 00 00 00 00 00 00 03
				02 00 08 00 00 00 00 00 00 00 02
				03 00 08 00 00 00 00 01 02 03 04
				04 00 08 00 00 00 00 00 00 00 01
				05 00 08 00 00 00 00 00 00 00 05
				06 00 08 00 00 00 00 00 00 00 06
				07 00 08 00 00 00 00 07 08 09 0a
				08 00 08 00 00 00 00 00 00 00 02
				09 00 20 c8 23 d7 a7 2b 3e 7a a4 a6 bc b3 3a 9f 31 a9 22 c0 06 3c e8 6c ca 43 da 9c b3 31 f3 9e 77 7c 8c
				0a 01 f4`), sevens(500)...),
			api.Digest(unhex("e5c8ed8a3717b32745a83953993b5678554d385b3faaf2a01580cf7e40887da4")),
			[3][]byte{
				unhex("89a6017e9520ad9ac1b3466e83cfc4f945b7965a11ca29ab9fd9bef368201d927880f63bba78a4ccde749ab1da4227509320b5e86a389d858826e1758193a00d"),
				unhex("35e29c7a91a1c9fde303cad660b7b1a82cf512c66af21f90596b70fe6424e240c15777e754643af6154b457a4621894c3fe75dfb96e675267d90d9803af220cf"),
				unhex("62a6a017421ae1854026a15c59de06231df3b8c8fa6d9cd103501fcbac1b07c832e6039cefab5ca699bfa0f5308148c72d60995becde92fb6744458f088d69c7"),
			},
		},
	}
}

func knownNotice() known {
	return known{
		api.Record{Device: 3, Seq: 3, At: 1073741824, Kind: 2, Stop: 4, Zone: 3, Serial: 2}, unhex(`
			01 00 08 00 00 00 00 00 00 00 03
			02 00 08 00 00 00 00 00 00 00 03
			03 00 08 00 00 00 00 40 00 00 00
			04 00 08 00 00 00 00 00 00 00 02
			05 00 08 00 00 00 00 00 00 00 04
			06 00 08 00 00 00 00 00 00 00 03
			07 00 08 00 00 00 00 00 00 00 02
			08 00 08 00 00 00 00 00 00 00 00
			09 00 20 e5 c8 ed 8a 37 17 b3 27 45 a8 39 53 99 3b 56 78 55 4d 38 5b 3f aa f2 a0 15 80 cf 7e 40 88 7d a4
			0a 00 00`),
		api.Digest(unhex("5953dc035c7f0fe59ad3fdf6012b7ac3106e24ca875523a4b8d4226d3cf30c84")),
		[3][]byte{
			unhex("f2ede31c7a48ada72eca7a50c5842938dd7ef95f5f6e69ab3776a70d11d7c8a664bf1339c7e2d3b37000344db50c6eac8e125d2a7432d02a6cfa18662537c6e6"),
			unhex("c8cc622847c2b56c8aff16a8deec60295bea72343b0c9c57239d9d1160a6ee87079a9205e48bedcbbe16ca3d6e75833203eddf76aeab7426c55f3d318cca2433"),
			unhex("15780cca8f7e283e3da0ff0f30e357b38b05408ed04ab2beb5f3a13771667a1530e1e913eafc96956d967df8f8816d05a005a670eff75c7d5e9138b4624a6258"),
		},
	}
}

func knownVoid() known {
	return known{
		api.Record{Device: 3, Seq: 4, Kind: 3, Serial: 3}, unhex(`
			01 00 08 00 00 00 00 00 00 00 03
			02 00 08 00 00 00 00 00 00 00 04
			03 00 08 00 00 00 00 00 00 00 00
			04 00 08 00 00 00 00 00 00 00 03
			05 00 08 00 00 00 00 00 00 00 00
			06 00 08 00 00 00 00 00 00 00 00
			07 00 08 00 00 00 00 00 00 00 03
			08 00 08 00 00 00 00 00 00 00 00
			09 00 20 59 53 dc 03 5c 7f 0f e5 9a d3 fd f6 01 2b 7a c3 10 6e 24 ca 87 55 23 a4 b8 d4 22 6d 3c f3 0c 84
			0a 00 00`),
		api.Digest(unhex("1f01f9dab32c3e8e11ce0bdfc391e320ff7841d5e0cee60e4404af75eca4240e")),
		[3][]byte{
			unhex("9f7625c0b4cb5c6ac62825ac87e3d8b55717411808b9c05d81eabc7921fe2def702dbbd7794d0ec36575add9ecb8bcdcfcc284f092ab7eeddccd64430a9de4dd"),
			unhex("4afa75f43f32aadabc749b4a33d373ea8b62a92900438d58a732a5cf9d9ae39609ebb6047356228aa2c6c4d2c8bcb6518a8ba671713d75c7507d7e8ec7ab2adf"),
			unhex("1953b4adc574ff2c7b151b97b256f0bddbe37455bef8e01436559d7446e42c43baf45d8db2ca55f88c4cfddcd3932ec1e6305e7b6266d344566f10cb62fe51a4"),
		},
	}
}

// knownMost is no part of the chain.
func knownMost() known {
	return known{
		most, append(unhex(`
			01 00 08 00 00 00 00 7f ff ff ff
			02 00 08 00 00 00 00 40 00 00 00
			03 00 08 00 00 00 00 40 00 00 00
			04 00 08 00 00 00 00 00 00 00 01
			05 00 08 00 00 00 00 00 00 00 1f
			06 00 08 00 00 00 00 00 00 00 07
			07 00 08 00 00 00 00 7f ff ff ff
			08 00 08 00 00 00 00 00 00 00 07
			09 00 20 00 01 02 03 04 05 06 07 08 09 0a 0b 0c 0d 0e 0f 10 11 12 13 14 15 16 17 18 19 1a 1b 1c 1d 1e 1f
			0a 01 f4`), sevens(500)...),
		api.Digest(unhex("bee71b4b79b55f9871b0bc502d7cb98a142ffc15ef333d3e354327a18e1299c9")),
		[3][]byte{
			unhex("e58c8fcffd5c71a7ae4b79a31cc6073a18bb06ef1cea14e82f0169191444c9b2e22244788561274adcac1bbcb763eb11e696ef47d383158a2db1f311c5ac9462"),
			unhex("3cf0b78382fe10ad5700d4317b8e14e9ac1d999a74b221a93be0f55d75ff0b84b7fe5ae00b4a914e6f06c30c70deadc12861e03ff561ec9061aed0786523758c"),
			unhex("a7accc1f14376cfe6905ddd825b93afe26335ff720d87aff2590115bbc366c884a54e97d4c6929bfe6dae55c2858ecb7b7eb1a1704720048389b73848e17859b"),
		},
	}
}

func knownRecords() []known { return append(knownChain(), knownMost()) }

func TestKnownBodies(t *testing.T) {
	for _, c := range knownRecords() {
		if b := mustBody(t, c.record); !bytes.Equal(b, c.body) || len(b) != 126+len(c.record.Bytes) {
			t.Error(c.record, b)
		}
	}
}

func TestKnownSignedOnes(t *testing.T) {
	for _, c := range knownRecords() {
		size := len(c.body)
		for i, d := range knownSecrets() {
			want := slices.Concat([]byte{1, byte(size >> 8), byte(size)}, c.body, []byte{2, 0, 64}, c.signatures[i])
			if b := mustIssue(t, c.record, d); !bytes.Equal(b, want) || len(b) != frame+len(c.record.Bytes) {
				t.Error(c.record, d, b)
			}
			r, link, s := mustOpen(t, want)
			if !same(r, c.record) || link != c.link || s != (api.Sig{R: numOf(c.signatures[i][:32]), S: numOf(c.signatures[i][32:])}) {
				t.Error(c.record, d, r, link, s)
			}
			checks(t, d, want, mustKey(t, d), c.record)
		}
	}
}

func TestBodiesOfManyRecords(t *testing.T) {
	r := rand.New(rand.NewPCG(17, 3))
	for range 3000 {
		mayBe(t, "made", madeRecord(r))
	}
}

func TestIssueIsABodyAndASignatureThatHoldsForItsSum(t *testing.T) {
	for _, r := range records() {
		for _, d := range []api.Num{{1}, {2}, secret, orderPlus(-2), orderPlus(-1)} {
			b := mustIssue(t, r, d)
			body := otherBody(r)
			size := len(body)
			if len(b) != size+70 || !bytes.Equal(b[:3+size], laid(value{1, body})) || !bytes.Equal(b[3+size:6+size], []byte{2, 0, 64}) {
				t.Error(r, d, b)
				continue
			}
			s := api.Sig{R: numOf(b[6+size : 38+size]), S: numOf(b[38+size:])}
			if !sign.Verify(mustKey(t, d), sha.Sum(body), s) || !bytes.Equal(b, otherIssue(t, r, d)) {
				t.Error(r, d, s)
			}
		}
	}
}

func TestIssueWithWhatIsNoSecret(t *testing.T) {
	for _, d := range []api.Num{{}, orderPlus(0), orderPlus(1), orderPlus(2), orderPlus(1 << 40), {0, 0, 0, full}, largest} {
		for _, r := range records() {
			if b, err := Issue(r, d); b != nil || err != error(api.ErrArg) {
				t.Error(r, d, b, err)
			}
		}
	}
}

func TestARecordThatMayNotBeIsIssuedByNobody(t *testing.T) {
	for _, d := range []api.Num{{}, {1}, {5}, secret, orderPlus(-1), orderPlus(0), orderPlus(1), largest} {
		for _, r := range []api.Record{
			{}, with(inspect, 0, 0), with(notice, 1, -1), with(void, 2, 1<<30+1), with(inspect, 3, 4), with(notice, 4, 32),
			with(void, 5, 8), with(inspect, 6, 1<<31), with(inspect, 7, 0), with(notice, 7, 1), withBytes(inspect, make([]byte, 501)), withBytes(void, []byte{1}),
		} {
			if b, err := Issue(r, d); b != nil || err != error(api.ErrArg) {
				t.Error(r, d, b, err)
			}
		}
	}
}

// P17.2: what opens.

func TestTheExample(t *testing.T) {
	isOfNoForm(t, "nil", nil)
	isOfNoForm(t, "empty", []byte{})
	isOfNoForm(t, "with room", mustIssue(t, inspect, secret)[:0])
}

func TestOpenOfASignedOneCutOff(t *testing.T) {
	for _, r := range []api.Record{inspect, notice, void, most} {
		whole := mustIssue(t, r, secret)
		for at := range whole {
			isOfNoForm(t, at, whole[:at])
			isOfNoForm(t, at, bytes.Clone(whole[:at]))
			isOfNoForm(t, at, whole[at+1:])
		}
	}
}

func TestOpenOfASignedOneWithMore(t *testing.T) {
	for _, r := range []api.Record{inspect, notice} {
		whole := mustIssue(t, r, secret)
		for more := range 256 {
			isOfNoForm(t, more, append(bytes.Clone(whole), byte(more)))
			isOfNoForm(t, more, append([]byte{byte(more)}, whole...))
			isOfNoForm(t, more, append(bytes.Clone(whole), byte(more), 0, 0))
		}
		isOfNoForm(t, "twice", slices.Concat(whole, whole))
		for at := range whole {
			isOfNoForm(t, at, slices.Insert(bytes.Clone(whole), at, 0))
			isOfNoForm(t, at, slices.Insert(bytes.Clone(whole), at, whole[at]^1))
		}
	}
	isOfNoForm(t, "many", bytes.Repeat([]byte{1}, 1<<16))
}

func TestOpenWithEachByteChanged(t *testing.T) {
	for _, r := range []api.Record{inspect, notice, void, least} {
		eachByteChanged(t, r, 1)
	}
	eachByteChanged(t, most, 17) // to so few, as there are so many bytes
}

// eachByteChanged goes by every so many changes of each byte.
func eachByteChanged(t *testing.T, r api.Record, step int) {
	t.Helper()
	whole, opened := mustIssue(t, r, secret), 0
	for at := range whole {
		for by := 0; by < 256; by += step {
			b := bytes.Clone(whole)
			b[at] ^= byte(by)
			want, _, signature, ok := otherOpen(b)
			if !ok {
				isOfNoForm(t, []int{at, by}, b)
				continue
			}
			opens(t, []int{at, by}, b, want, signature)
			hasJustThoseBytes(t, []int{at, by}, b)
			opened++
		}
	}
	if opened < (32+64+len(r.Bytes))*256/step {
		t.Error("the changes tell little", r, opened)
	}
}

func TestFieldsOfOtherTagsAndCounts(t *testing.T) {
	for _, r := range []api.Record{inspect, notice, most} {
		body, signature := otherBody(r), signatureBytes(anySign)
		opens(t, "as it is", wholeOf(body, signature), r, anySign)
		for name, b := range map[string][]byte{
			"the body alone":          laid(value{1, body}),
			"the signature alone":     laid(value{2, signature}),
			"the signature as 1":      laid(value{1, signature}),
			"the body as 2":           laid(value{2, body}),
			"a field 3 more":          laid(value{1, body}, value{2, signature}, value{3, nil}),
			"a field 3 with bytes":    laid(value{1, body}, value{2, signature}, value{3, signature}),
			"a field 255 more":        laid(value{1, body}, value{2, signature}, value{255, nil}),
			"a field 0 ahead":         laid(value{0, nil}, value{1, body}, value{2, signature}),
			"field 1 twice":           laid(value{1, body}, value{1, body}, value{2, signature}),
			"field 2 twice":           laid(value{1, body}, value{2, signature}, value{2, signature}),
			"as 1 and 3":              laid(value{1, body}, value{3, signature}),
			"as 2 and 3":              laid(value{2, body}, value{3, signature}),
			"as 0 and 1":              laid(value{0, body}, value{1, signature}),
			"as 254 and 255":          laid(value{254, body}, value{255, signature}),
			"both as 1":               laid(value{1, body}, value{1, signature}),
			"both as 2":               laid(value{2, body}, value{2, signature}),
			"as 2 and 1":              laid(value{2, body}, value{1, signature}),
			"2 ahead of 1":            laid(value{2, signature}, value{1, body}),
			"1 and 2, one for other":  wholeOf(signature, body),
			"no body":                 wholeOf(nil, signature),
			"no signature":            wholeOf(body, nil),
			"the body for both":       wholeOf(body, body),
			"the signature for both":  wholeOf(signature, signature),
			"no bytes for both":       wholeOf(nil, nil),
			"a whole one for a body":  wholeOf(wholeOf(body, signature), signature),
			"the body's fields alone": body,
			"the signature's bytes":   signature,
		} {
			isOfNoForm(t, name, b)
		}
	}
}

// isNoBody is told of bytes with a signature beside them that may be.
func isNoBody(t *testing.T, name any, body []byte) {
	t.Helper()
	isOfNoForm(t, name, wholeOf(body, signatureBytes(anySign)))
}

func TestBodiesOfOtherCounts(t *testing.T) {
	for _, r := range []api.Record{inspect, notice, void, least} {
		l := bodyValues(r)
		isNoBody(t, "none", nil)
		for many := range 10 {
			isNoBody(t, many, laid(l[:many]...))
		}
		for at := range l {
			isNoBody(t, []any{"left out", at}, laid(slices.Delete(slices.Clone(l), at, at+1)...))
			isNoBody(t, []any{"twice", at}, laid(slices.Insert(slices.Clone(l), at, l[at])...))
		}
		for _, tag := range []int{11, 12, 255} {
			for _, b := range [][]byte{nil, eight(1), otherBody(r)} {
				isNoBody(t, tag, laid(append(slices.Clone(l), value{tag, b})...))
			}
		}
		isNoBody(t, "0 ahead", laid(append([]value{{0, eight(1)}}, l...)...))
		isNoBody(t, "cut off", otherBody(r)[:len(otherBody(r))-1])
		isNoBody(t, "a byte more", append(otherBody(r), 0))
		isNoBody(t, "a large one", laid(append(slices.Clone(l), value{11, make([]byte, 60000)})...))
	}
}

func TestBodiesOfOtherTags(t *testing.T) {
	for at := range 10 {
		for tag := range 256 {
			if tag == at+1 {
				continue
			}
			l := bodyValues(inspect)
			l[at].tag = tag
			isNoBody(t, []int{at, tag}, laid(l...))
		}
	}
	for _, first := range []int{0, 2, 3, 246} {
		l := bodyValues(inspect)
		for at := range l {
			l[at].tag = first + at
		}
		isNoBody(t, first, laid(l...))
	}
	for at := range 10 {
		for other := range at {
			l := bodyValues(inspect)
			l[at], l[other] = l[other], l[at]
			isNoBody(t, []any{"swapped", at, other}, laid(l...))
		}
	}
}

func TestBodiesWithANumberOfOtherBytes(t *testing.T) {
	for at, number := range numbersOf(inspect) {
		zeros := make([]byte, 300)
		ahead, behind := slices.Concat(zeros, eight(uint64(number))), slices.Concat(eight(uint64(number)), zeros)
		for _, many := range []int{0, 1, 2, 3, 4, 5, 6, 7, 9, 10, 16, 256} {
			l := bodyValues(inspect)
			l[at].b = ahead[len(ahead)-many:]
			isNoBody(t, []any{"ahead", at, many}, laid(l...))
			l[at].b = behind[:many]
			isNoBody(t, []any{"behind", at, many}, laid(l...))
		}
	}
}

func TestBodiesWithAPrevOfOtherBytes(t *testing.T) {
	for _, r := range []api.Record{inspect, notice, least} {
		for many := range 300 {
			if many == 32 {
				continue
			}
			for _, b := range [][]byte{make([]byte, many), append(r.Prev[:min(many, 32):32], make([]byte, max(many-32, 0))...)} {
				l := bodyValues(r)
				l[8].b = b
				isNoBody(t, many, laid(l...))
			}
		}
	}
}

func TestBodiesWithBytesMoreThanMayBe(t *testing.T) {
	for _, many := range []int{501, 502, 511, 512, 756, 1000, 1012, 65000} {
		isNoBody(t, many, otherBody(withBytes(inspect, make([]byte, many))))
	}
	for _, many := range []int{1, 2, 499, 500, 501, 65000} {
		isNoBody(t, many, otherBody(withBytes(notice, make([]byte, many))))
		isNoBody(t, many, otherBody(withBytes(void, make([]byte, many))))
	}
}

func TestBodiesWithANumberOf2To63AndAbove(t *testing.T) {
	for _, r := range []api.Record{inspect, notice} {
		for at := range 8 {
			low := uint64(numbersOf(r)[at])
			for _, number := range []uint64{1 << 63, 1<<63 + 1, 1<<63 + low, math.MaxUint64, math.MaxUint64 - low, 1<<63 + 1<<62, 1<<63 - 1, 1 << 62, 1<<62 + low, 1<<32 + low} {
				l := bodyValues(r)
				l[at].b = eight(number)
				isNoBody(t, []any{at, number}, laid(l...))
			}
		}
	}
}

func TestSignaturesOfOtherCounts(t *testing.T) {
	body := otherBody(inspect)
	for many := range 300 {
		b := wholeOf(body, bytes.Repeat([]byte{1}, many))
		if many != 64 {
			isOfNoForm(t, many, b)
			continue
		}
		half := numOf(bytes.Repeat([]byte{1}, 32))
		opens(t, many, b, inspect, api.Sig{R: half, S: half})
	}
	s := signatureBytes(anySign)
	isOfNoForm(t, "63", wholeOf(body, s[:63]))
	isOfNoForm(t, "from the second on", wholeOf(body, s[1:]))
	isOfNoForm(t, "65", wholeOf(body, append(bytes.Clone(s), 0)))
	isOfNoForm(t, "128", wholeOf(body, slices.Concat(s, s)))
	isOfNoForm(t, "65535", wholeOf(body, make([]byte, 65535)))
	isOfNoForm(t, "63, of a record that may not be", wholeOf(otherBody(with(inspect, 0, 0)), s[:63]))
}

// outside are numbers that neither R nor S may be.
func outside() []api.Num {
	return []api.Num{{}, orderPlus(0), orderPlus(1), orderPlus(1 << 40), {0, 0, 0, full}, largest}
}

func TestSignaturesThatDontHoldOpen(t *testing.T) {
	q := mustKey(t, secret)
	for _, r := range []api.Record{inspect, void} {
		_, _, good := mustOpen(t, mustIssue(t, r, secret))
		wrong := []api.Sig{{R: api.Num{1}, S: api.Num{1}}, {R: good.S, S: good.R}, {R: orderPlus(-1), S: orderPlus(-1)}, {R: good.R}, {S: good.S}}
		for _, number := range outside() {
			wrong = append(wrong, api.Sig{R: number, S: good.S}, api.Sig{R: good.R, S: number}, api.Sig{R: number, S: number})
		}
		for _, s := range wrong {
			b := otherWhole(r, s)
			opens(t, s, b, r, s)
			isOfNoKey(t, s, b, q)
		}
	}
}

// P17.2: what checks.

func TestCheckWithOtherKeys(t *testing.T) {
	for _, r := range []api.Record{inspect, notice, void, most} {
		whole := mustIssue(t, r, secret)
		q := mustKey(t, secret)
		checks(t, r, whole, q, r)
		turned, err := point.Neg(q)
		if err != nil {
			t.Fatal(err)
		}
		for _, other := range []api.Point{
			turned, point.Base(), mustKey(t, api.Num{5}), mustKey(t, orderPlus(-1)),
			{Far: true}, {}, {X: q.X, Y: q.Y, Far: true}, {X: q.Y, Y: q.X}, {X: q.X}, {Y: q.Y},
			{X: q.X, Y: api.Num{q.Y[0] ^ 1, q.Y[1], q.Y[2], q.Y[3]}}, {X: largest, Y: q.Y}, {X: q.X, Y: largest},
		} {
			isOfNoKey(t, other, whole, other)
		}
	}
}

func TestAWrongFormIsToldAheadOfAWrongKey(t *testing.T) {
	whole := mustIssue(t, inspect, secret)
	for _, q := range []api.Point{{Far: true}, {}, {X: largest, Y: largest}, point.Base(), mustKey(t, secret)} {
		for _, b := range [][]byte{
			nil, whole[1:], whole[:len(whole)-1], append(bytes.Clone(whole), 0), otherWhole(with(inspect, 0, 0), anySign),
			otherIssue(t, with(inspect, 4, 32), secret), otherIssue(t, with(notice, atVerdict, 1), secret),
		} {
			if r, err := Check(b, q); !isZero(r) || err != error(api.ErrForm) {
				t.Error(q, len(b), r, err)
			}
		}
	}
}

func TestCheckWithABitOfEachByteChanged(t *testing.T) {
	for _, r := range []api.Record{inspect, notice} {
		whole, q, opened := mustIssue(t, r, secret), mustKey(t, secret), 0
		for at := range whole {
			for _, bit := range []int{0, 7 - at%7} {
				b := bytes.Clone(whole)
				b[at] ^= 1 << bit
				if _, _, _, ok := otherOpen(b); !ok {
					isOfNoForm(t, []int{at, bit}, b)
					continue
				}
				isOfNoKey(t, []int{at, bit}, b, q)
				opened++
			}
		}
		if opened < 2*(32+64) {
			t.Error("the changes tell little", opened)
		}
	}
}

func TestCheckOfAnotherRecordsSignature(t *testing.T) {
	q, l := mustKey(t, secret), records()
	for i, r := range l {
		_, _, s := mustOpen(t, mustIssue(t, r, secret))
		other := l[(i+1)%len(l)]
		isOfNoKey(t, other, otherWhole(other, s), q)
		for at := range 8 {
			number, ends := numbersOf(r)[at], endsOf(r.Kind)[at]
			if at == atKind || ends[0] == ends[1] {
				continue
			}
			number++
			if number > ends[1] {
				number -= 2
			}
			isOfNoKey(t, at, otherWhole(with(r, at, number), s), q)
		}
		prev := r.Prev
		prev[31] ^= 1
		isOfNoKey(t, "Prev", otherWhole(withPrev(r, prev), s), q)
	}
	_, _, s := mustOpen(t, mustIssue(t, inspect, secret))
	isOfNoKey(t, "Bytes", otherWhole(withBytes(inspect, []byte("showN")), s), q)
	isOfNoKey(t, "Bytes more", otherWhole(withBytes(inspect, []byte("shown\x00")), s), q)
	isOfNoKey(t, "Bytes less", otherWhole(withBytes(inspect, []byte("show")), s), q)
	isOfNoKey(t, "no Bytes", otherWhole(withBytes(inspect, nil), s), q)
	_, _, s = mustOpen(t, mustIssue(t, notice, secret))
	isOfNoKey(t, "Kind", otherWhole(with(notice, atKind, 3), s), q)
}

func TestASignatureWithAHalfChanged(t *testing.T) {
	q := mustKey(t, secret)
	_, _, s := mustOpen(t, mustIssue(t, inspect, secret))
	_, _, other := mustOpen(t, mustIssue(t, notice, secret))
	for word := range 4 {
		for _, bit := range []uint64{1, 1 << 40, 1 << 63} {
			r, half := s, s
			r.R[word] ^= bit
			half.S[word] ^= bit
			isOfNoKey(t, "R", otherWhole(inspect, r), q)
			isOfNoKey(t, "S", otherWhole(inspect, half), q)
		}
	}
	isOfNoKey(t, "another R", otherWhole(inspect, api.Sig{R: other.R, S: s.S}), q)
	isOfNoKey(t, "another S", otherWhole(inspect, api.Sig{R: s.R, S: other.S}), q)
}

func TestASignatureIsOfTheLinkAlone(t *testing.T) {
	q, body := mustKey(t, secret), otherBody(inspect)
	link := sha.Sum(body)
	for name, h := range map[string]api.Digest{
		"the body without its last": sha.Sum(body[:len(body)-1]),
		"the body as a field":       sha.Sum(laid(value{1, body})),
		"the link's own sum":        sha.Sum(link[:]),
		"Prev":                      inspect.Prev,
		"no bytes":                  sha.Sum(nil),
		"no digest":                 {},
	} {
		s, err := sign.Sign(secret, h)
		if err != nil {
			t.Fatal(err)
		}
		isOfNoKey(t, name, otherWhole(inspect, s), q)
	}
	s, err := sign.Sign(secret, link)
	if err != nil {
		t.Fatal(err)
	}
	checks(t, "the link", otherWhole(inspect, s), q, inspect)
}

// P17.3: chains.

// linked are so many records of a device, the first one's Prev 0, and each
// other one's the link of the one ahead.
func linked(many, device int) []api.Record {
	r := rand.New(rand.NewPCG(17, uint64(device)))
	l := make([]api.Record, many)
	for i := range l {
		l[i] = madeRecord(r)
		l[i].Device = device
	}
	return relinked(l, 0)
}

// relinked has Seqs and Prevs of a chain from that place on.
func relinked(l []api.Record, from int) []api.Record {
	l = slices.Clone(l)
	for i := from; i < len(l); i++ {
		l[i].Seq, l[i].Prev = i, api.Digest{}
		if i > 0 {
			l[i].Prev = sha.Sum(otherBody(l[i-1]))
		}
	}
	return l
}

func signed(t *testing.T, l []api.Record, d api.Num) [][]byte {
	t.Helper()
	out := make([][]byte, len(l))
	for i, r := range l {
		out[i] = otherIssue(t, r, d)
	}
	return out
}

func chains(t *testing.T, name any, l [][]byte, device int, q api.Point, want int) {
	t.Helper()
	if many := Chain(l, device, q); many != want {
		t.Error(name, "of", len(l), "are a chain", many, "not", want)
	}
}

func TestTheKnownChain(t *testing.T) {
	for i, d := range knownSecrets() {
		var l [][]byte
		for _, c := range knownChain() {
			l = append(l, wholeOf(c.body, c.signatures[i]))
		}
		q := mustKey(t, d)
		chains(t, d, l, 3, q, 5)
		chains(t, d, l[1:], 3, q, 0)
		chains(t, d, append(slices.Clone(l), wholeOf(knownMost().body, knownMost().signatures[i])), 3, q, 5)
	}
}

func TestChainOfNone(t *testing.T) {
	for _, device := range []int{3, 0, 1, -1, math.MaxInt64, math.MinInt64, 2147483647} {
		for _, q := range []api.Point{point.Base(), {Far: true}, {}} {
			chains(t, device, nil, device, q, 0)
			chains(t, device, [][]byte{}, device, q, 0)
			chains(t, device, [][]byte{nil}, device, q, 0)
			chains(t, device, [][]byte{{}, nil, {1}}, device, q, 0)
		}
	}
}

func TestChainOfEachLength(t *testing.T) {
	q := mustKey(t, secret)
	for _, device := range []int{1, 2, 3, 2147483646, 2147483647} {
		l := signed(t, linked(6, device), secret)
		for many := range len(l) + 1 {
			chains(t, device, l[:many], device, q, many)
		}
	}
	l := signed(t, linked(70, 9), secret)
	chains(t, "many", l, 9, q, 70)
}

func TestChainOfRecordsOfOneKind(t *testing.T) {
	q := mustKey(t, secret)
	for _, r := range []api.Record{inspect, notice, void, most, lowNotice, highVoid} {
		l := signed(t, relinked([]api.Record{r, r, r}, 0), secret)
		chains(t, r.Kind, l, r.Device, q, 3)
	}
}

func TestChainOfAnotherDevice(t *testing.T) {
	q := mustKey(t, secret)
	for _, theirs := range []int{1, 3, 2147483647} {
		l := signed(t, linked(3, theirs), secret)
		for _, device := range []int{0, 1, 2, 3, 4, -1, -3, 2147483646, 2147483647, 2147483648, 1<<32 + 3, 1<<32 + 1, -2147483647, math.MaxInt64, math.MinInt64, math.MinInt64 + 3} {
			if device != theirs {
				chains(t, device, l, device, q, 0)
			}
		}
		chains(t, theirs, l, theirs, q, 3)
	}
}

func TestChainOfAnotherKey(t *testing.T) {
	l, q := signed(t, linked(3, 3), secret), mustKey(t, secret)
	turned, err := point.Neg(q)
	if err != nil {
		t.Fatal(err)
	}
	for _, other := range []api.Point{turned, point.Base(), mustKey(t, api.Num{5}), {Far: true}, {}, {X: q.X, Y: q.Y, Far: true}, {X: q.X}, {X: largest, Y: largest}} {
		chains(t, other, l, 3, other, 0)
	}
}

// A fault makes of a chain's records, and what they are signed with, such as
// aren't a chain from one place on: what stands behind that place is as good
// as it can be.
type fault struct {
	name  string
	first int // the first place where it can be
	spoil func(t *testing.T, l []api.Record, at int) [][]byte
}

func sequences() []fault {
	number := func(to func(at int) int) func(*testing.T, []api.Record, int) [][]byte {
		return func(t *testing.T, l []api.Record, at int) [][]byte {
			l[at].Seq = to(at)
			relink(l, at+1)
			return signed(t, l, secret)
		}
	}
	return []fault{
		{"a Seq skipped, and all behind it one more", 0, func(t *testing.T, l []api.Record, at int) [][]byte {
			for i := at; i < len(l); i++ {
				l[i].Seq++
			}
			relink(l, at+1)
			return signed(t, l, secret)
		}},
		{"a Seq doubled, and all behind it one less", 1, func(t *testing.T, l []api.Record, at int) [][]byte {
			for i := at; i < len(l); i++ {
				l[i].Seq--
			}
			relink(l, at+1)
			return signed(t, l, secret)
		}},
		{"one more", 0, number(func(at int) int { return at + 1 })},
		{"one less", 1, number(func(at int) int { return at - 1 })},
		{"0", 1, number(func(at int) int { return 0 })},
		{"the greatest", 0, number(func(at int) int { return 1073741824 })},
		{"256 more", 0, number(func(at int) int { return at + 256 })},
	}
}

// relink sets the Prevs alone.
func relink(l []api.Record, from int) {
	for i := from; i < len(l); i++ {
		l[i].Prev = sha.Sum(otherBody(l[i-1]))
	}
}

func links() []fault {
	prev := func(to func(l []api.Record, at int) api.Digest) func(*testing.T, []api.Record, int) [][]byte {
		return func(t *testing.T, l []api.Record, at int) [][]byte {
			l[at].Prev = to(l, at)
			relink(l, at+1)
			return signed(t, l, secret)
		}
	}
	return []fault{
		{"Prev of two ahead", 2, prev(func(l []api.Record, at int) api.Digest { return sha.Sum(otherBody(l[at-2])) })},
		{"the Prev of the one ahead", 2, prev(func(l []api.Record, at int) api.Digest { return l[at-1].Prev })},
		{"Prev 0", 1, prev(func([]api.Record, int) api.Digest { return api.Digest{} })},
		{"Prev of another chain", 1, prev(func(l []api.Record, at int) api.Digest { return sha.Sum(otherBody(linked(at, 4)[at-1])) })},
		{"Prev of what is whole, ahead", 1, prev(func(l []api.Record, at int) api.Digest { return sha.Sum(otherWhole(l[at-1], anySign)) })},
		{"Prev of another one", 0, prev(func(l []api.Record, at int) api.Digest { return sha.Sum(otherBody(inspect)) })},
		{"Prev with its first byte changed", 0, prev(func(l []api.Record, at int) api.Digest { l[at].Prev[0] ^= 1; return l[at].Prev })},
		{"Prev with its last byte changed", 0, prev(func(l []api.Record, at int) api.Digest { l[at].Prev[31] ^= 128; return l[at].Prev })},
	}
}

func others() []fault {
	replaced := func(by func(t *testing.T, r api.Record) []byte) func(*testing.T, []api.Record, int) [][]byte {
		return func(t *testing.T, l []api.Record, at int) [][]byte {
			out := signed(t, l, secret)
			out[at] = by(t, l[at])
			return out
		}
	}
	return []fault{
		{"of another device", 0, func(t *testing.T, l []api.Record, at int) [][]byte {
			l[at].Device = 4
			relink(l, at+1)
			return signed(t, l, secret)
		}},
		{"of another device from there on", 0, func(t *testing.T, l []api.Record, at int) [][]byte {
			for i := at; i < len(l); i++ {
				l[i].Device = 2147483647
			}
			relink(l, at+1)
			return signed(t, l, secret)
		}},
		{"signed by another key", 0, replaced(func(t *testing.T, r api.Record) []byte { return otherIssue(t, r, api.Num{5}) })},
		{"with the signature of another one", 0, replaced(func(t *testing.T, r api.Record) []byte {
			_, _, s := mustOpen(t, otherIssue(t, inspect, secret))
			return otherWhole(r, s)
		})},
		{"with a signature of 0", 0, replaced(func(t *testing.T, r api.Record) []byte { return otherWhole(r, api.Sig{}) })},
		{"nil", 0, replaced(func(*testing.T, api.Record) []byte { return nil })},
		{"cut off", 0, replaced(func(t *testing.T, r api.Record) []byte { b := otherIssue(t, r, secret); return b[:len(b)-1] })},
		{"with a byte more", 0, replaced(func(t *testing.T, r api.Record) []byte { return append(otherIssue(t, r, secret), 0) })},
		{"a body alone", 0, replaced(func(t *testing.T, r api.Record) []byte { return otherBody(r) })},
		{"one that may not be", 0, func(t *testing.T, l []api.Record, at int) [][]byte {
			l[at].Stop = 32
			relink(l, at+1)
			return signed(t, l, secret)
		}},
		{"left out", 0, func(t *testing.T, l []api.Record, at int) [][]byte {
			return slices.Delete(signed(t, l, secret), at, at+1)
		}},
		{"one more between", 0, func(t *testing.T, l []api.Record, at int) [][]byte {
			return slices.Insert(signed(t, l, secret), at, otherIssue(t, inspect, secret))
		}},
		{"the one ahead once more", 1, func(t *testing.T, l []api.Record, at int) [][]byte {
			out := signed(t, l, secret)
			return slices.Insert(out, at, out[at-1])
		}},
		{"swapped with the next", 0, func(t *testing.T, l []api.Record, at int) [][]byte {
			out := signed(t, l, secret)
			if at == len(out)-1 {
				return out[:at]
			}
			out[at], out[at+1] = out[at+1], out[at]
			return out
		}},
		{"swapped with the last", 0, func(t *testing.T, l []api.Record, at int) [][]byte {
			out := signed(t, l, secret)
			if at == len(out)-1 {
				return out[:at]
			}
			out[at], out[len(out)-1] = out[len(out)-1], out[at]
			return out
		}},
	}
}

func TestAChainEndsAheadOfTheFirstFault(t *testing.T) {
	const many = 5
	q := mustKey(t, secret)
	for _, f := range slices.Concat(sequences(), links(), others()) {
		for at := f.first; at < many; at++ {
			l := f.spoil(t, linked(many, 3), at)
			chains(t, []any{f.name, at}, l, 3, q, at)
		}
	}
}

func TestTheFirstOfTwoFaultsEndsAChain(t *testing.T) {
	const many = 4
	q, l := mustKey(t, secret), linked(many, 3)
	good, byOther := signed(t, l, secret), signed(t, l, api.Num{5})
	for first := range many {
		for second := range first {
			for _, faulty := range [][2][]byte{{nil, byOther[second]}, {byOther[first], nil}, {good[second], good[first]}} {
				out := slices.Clone(good)
				out[first], out[second] = faulty[0], faulty[1]
				chains(t, []int{first, second}, out, 3, q, second)
			}
		}
	}
}

func TestALinkIsOfTheBodyWhateverTheSignature(t *testing.T) {
	q := mustKey(t, secret)
	l := signed(t, linked(4, 3), secret)
	for i, b := range l {
		r, _, s := mustOpen(t, b)
		s.S, _ = limb.Sub(order, s.S)
		if i%2 == 1 {
			l[i] = otherWhole(r, s)
		}
	}
	chains(t, "turned", l, 3, q, 4)
}

func TestChainsOfEachDeviceStandByThemselves(t *testing.T) {
	ours, theirs := signed(t, linked(3, 3), secret), signed(t, linked(3, 4), api.Num{5})
	q, other := mustKey(t, secret), mustKey(t, api.Num{5})
	for _, l := range [][][]byte{ours, slices.Concat(ours, theirs), slices.Concat(ours, ours)} {
		chains(t, "ours", l, 3, q, 3)
		chains(t, "of their key", l, 3, other, 0)
		chains(t, "of their number", l, 4, q, 0)
		chains(t, "of both", l, 4, other, 0)
	}
	chains(t, "one of each", [][]byte{ours[0], theirs[1], ours[1]}, 3, q, 1)
}

func TestChainsOfManyShuffles(t *testing.T) {
	const many = 4
	q, l := mustKey(t, secret), signed(t, linked(many, 3), secret)
	r := rand.New(rand.NewPCG(17, 5))
	for range 60 {
		places := make([]int, r.IntN(6))
		out := make([][]byte, len(places))
		for i := range places {
			places[i] = i
			if r.IntN(3) == 0 || i >= many {
				places[i] = r.IntN(many)
			}
			out[i] = l[places[i]]
		}
		want := 0
		for want < len(places) && places[want] == want {
			want++
		}
		chains(t, places, out, 3, q, want)
	}
}

// P17.4

// spoil changes all that a list of bytes holds, and has room for.
func spoil(b []byte) {
	b = b[:cap(b)]
	for i := range b {
		b[i] ^= 0xff
	}
}

func TestBytesThatAreHandedInStay(t *testing.T) {
	whole, q := mustIssue(t, inspect, secret), mustKey(t, secret)
	for _, b := range [][]byte{
		whole, whole[:124], append(bytes.Clone(whole), 7), {}, otherWhole(api.Record{}, anySign),
		wholeOf(otherBody(inspect), make([]byte, 63)), otherWhole(inspect, api.Sig{}), mustIssue(t, notice, secret),
	} {
		handed := append(bytes.Clone(b), "marks"...)
		Open(handed[:len(b)])
		Check(handed[:len(b)], q)
		Check(handed[:len(b)], point.Base())
		Chain([][]byte{handed[:len(b)]}, 3, q)
		if string(handed) != string(b)+"marks" {
			t.Error(b, handed)
		}
	}
}

func TestARecordThatIsHandedInStays(t *testing.T) {
	for _, want := range []api.Record{inspect, most, withBytes(inspect, nil), notice, withBytes(notice, []byte("x")), withBytes(inspect, make([]byte, 501))} {
		held := append(bytes.Clone(want.Bytes), "marks"...)
		r, d := withBytes(want, held[:len(want.Bytes)]), secret
		May(r)
		Body(r)
		Issue(r, d)
		Issue(r, api.Num{})
		if !same(r, want) || d != secret || string(held) != string(want.Bytes)+"marks" {
			t.Error(r, d, held)
		}
	}
}

func TestAListThatIsHandedInStays(t *testing.T) {
	q := mustKey(t, secret)
	l := append(signed(t, linked(3, 3), secret), nil, []byte("no record"), otherIssue(t, inspect, secret))
	want := make([][]byte, len(l))
	for i, b := range l {
		want[i] = bytes.Clone(b)
	}
	for many := range l {
		Chain(l[:many+1], 3, q)
		Chain(l[many:], 3, q)
	}
	for i := range l {
		if !bytes.Equal(l[i], want[i]) || (l[i] == nil) != (want[i] == nil) {
			t.Error(i, l[i])
		}
	}
	if q != mustKey(t, secret) {
		t.Error(q)
	}
}

func TestWhatWasToldHangsNoMoreOnTheRecord(t *testing.T) {
	for _, want := range []api.Record{inspect, most, notice} {
		r := clone(want)
		body, whole := mustBody(t, r), mustIssue(t, r, secret)
		spoil(r.Bytes)
		if !bytes.Equal(body, otherBody(want)) || !bytes.Equal(whole, otherIssue(t, want, secret)) {
			t.Error(want, body, whole)
		}
	}
}

func TestWhatWasToldIsTheCallers(t *testing.T) {
	for _, want := range []api.Record{inspect, most, notice, least} {
		r := clone(want)
		body, whole := mustBody(t, r), mustIssue(t, r, secret)
		wasWhole := bytes.Clone(whole)
		spoil(body)
		if !same(r, want) || !bytes.Equal(mustBody(t, r), otherBody(want)) || !bytes.Equal(whole, wasWhole) {
			t.Error("the body", r)
		}
		spoil(whole)
		if !same(r, want) || !bytes.Equal(mustIssue(t, r, secret), wasWhole) || !bytes.Equal(mustBody(t, r), otherBody(want)) {
			t.Error("the signed one", r)
		}
	}
}

func TestWhatWasOpenedHangsNoMoreOnTheBytes(t *testing.T) {
	q := mustKey(t, secret)
	for _, want := range []api.Record{inspect, most, notice} {
		whole := mustIssue(t, want, secret)
		was := bytes.Clone(whole)
		r, link, s := mustOpen(t, whole)
		checked, err := Check(whole, q)
		spoil(whole)
		if err != nil || !same(r, want) || !same(checked, want) || link != sha.Sum(otherBody(want)) || !bytes.Equal(otherWhole(r, s), was) {
			t.Error(r, link, s, checked, err)
		}
		isOfNoForm(t, "spoilt", whole)
		checks(t, "again", was, q, want)
	}
}

func TestWhatWasOpenedIsTheCallers(t *testing.T) {
	q := mustKey(t, secret)
	for _, want := range []api.Record{inspect, most} {
		whole := mustIssue(t, want, secret)
		was := bytes.Clone(whole)
		r, _, _ := mustOpen(t, whole)
		again, _, s := mustOpen(t, whole)
		checked, err := Check(whole, q)
		if err != nil {
			t.Fatal(err)
		}
		spoil(r.Bytes)
		if !bytes.Equal(whole, was) || !same(again, want) || !same(checked, want) {
			t.Error(whole, again, checked)
		}
		spoil(checked.Bytes)
		if !bytes.Equal(whole, was) || !same(again, want) {
			t.Error(whole, again)
		}
		opens(t, "again", whole, want, s)
	}
}

func TestWhatWasToldStaysWhenMoreIsTold(t *testing.T) {
	body, whole := mustBody(t, inspect), mustIssue(t, inspect, secret)
	wasBody, wasWhole := bytes.Clone(body), bytes.Clone(whole)
	r, _, _ := mustOpen(t, whole)
	mustBody(t, most)
	mustIssue(t, most, api.Num{5})
	Issue(api.Record{}, secret)
	Check(mustIssue(t, least, secret), point.Base())
	Chain(signed(t, linked(2, 3), secret), 3, mustKey(t, secret))
	if !bytes.Equal(body, wasBody) || !bytes.Equal(whole, wasWhole) || !same(r, inspect) {
		t.Error(body, whole, r)
	}
}

func TestNothingIsKeptFromCallToCall(t *testing.T) {
	q := mustKey(t, secret)
	l := signed(t, linked(3, 3), secret)
	for range 3 {
		chains(t, "all", l, 3, q, 3)
		chains(t, "the last ones", l[1:], 3, q, 0)
		chains(t, "of another device", l, 4, q, 0)
		isOfNoForm(t, "cut", l[0][1:])
	}
}

// P17.5

func TestWhatWasIssuedOpensAndChecks(t *testing.T) {
	for _, r := range records() {
		for _, d := range []api.Num{{1}, {2}, {5}, secret, orderPlus(-2), orderPlus(-1)} {
			b := mustIssue(t, r, d)
			checks(t, d, b, mustKey(t, d), r)
			got, link, s := mustOpen(t, b)
			if !same(got, r) || link != sha.Sum(mustBody(t, r)) || !sign.Verify(mustKey(t, d), link, s) {
				t.Error(r, d, got, link, s)
			}
			if again := mustIssue(t, got, d); !bytes.Equal(again, b) {
				t.Error(r, d, again)
			}
		}
	}
}

// hasJustThoseBytes is told of what opens.
func hasJustThoseBytes(t *testing.T, name any, b []byte) {
	t.Helper()
	r, link, s := mustOpen(t, b)
	body := mustBody(t, r)
	if !bytes.Equal(wholeOf(body, sign.Bytes(s)), b) || !bytes.Equal(body, b[3:len(b)-67]) || link != sha.Sum(body) || !May(r) {
		t.Error(name, r, link, s)
	}
}

func TestWhatOpensHasJustThoseBytes(t *testing.T) {
	r := rand.New(rand.NewPCG(17, 6))
	opened, l := 0, records()
	for i := range 5000 {
		b := otherWhole(l[i%len(l)], api.Sig{R: api.Num{r.Uint64(), r.Uint64(), r.Uint64(), r.Uint64()}, S: api.Num{r.Uint64(), 0, 0, r.Uint64()}})
		for range r.IntN(3) {
			b[r.IntN(len(b))] = byte(r.IntN(256))
		}
		want, _, s, ok := otherOpen(b)
		if !ok {
			isOfNoForm(t, i, b)
			continue
		}
		opened++
		opens(t, i, b, want, s)
		hasJustThoseBytes(t, i, b)
	}
	if opened < 1000 || opened > 4900 {
		t.Error("the bytes tell little", opened)
	}
}

func TestOfAChainTheFirstOnesAreOne(t *testing.T) {
	q := mustKey(t, api.Num{5})
	var l [][]byte
	var last api.Digest
	for i, r := range slices.Concat(records(), records()) {
		r.Device, r.Seq, r.Prev = 7, i, last
		l = append(l, mustIssue(t, r, api.Num{5}))
		_, last, _ = mustOpen(t, l[i])
	}
	for many := range len(l) + 1 {
		chains(t, many, l[:many], 7, q, many)
	}
	for at := range l {
		if at > 0 {
			chains(t, at, l[at:], 7, q, 0)
		}
	}
}

// P1

func TestEveryCallEnds(t *testing.T) {
	numbers := []int{0, 1, 2, 3, 4, 7, 31, -1, 1 << 30, 1<<31 - 1, 1 << 31, math.MaxInt64, math.MinInt64}
	points := []api.Point{{}, {Far: true}, point.Base(), {X: largest, Y: largest}, {X: largest, Y: largest, Far: true}}
	r := rand.New(rand.NewPCG(17, 7))
	any := func() int { return numbers[r.IntN(len(numbers))] }
	for range 3000 {
		x := api.Record{
			Device: any(), Seq: any(), At: any(), Kind: any(), Stop: any(), Zone: any(), Serial: any(), Verdict: any(),
			Bytes: make([]byte, r.IntN(600)),
		}
		May(x)
		Body(x)
		Issue(x, []api.Num{{}, largest, order}[r.IntN(3)])
		b := otherWhole(x, anySign)
		if r.IntN(2) == 0 {
			b = b[r.IntN(len(b)):]
		}
		q := points[r.IntN(len(points))]
		Open(b)
		Check(b, q)
		Chain([][]byte{nil, b}[r.IntN(2):], any(), q)
	}
}

func FuzzOpen(f *testing.F) {
	for _, c := range knownRecords() {
		whole := wholeOf(c.body, c.signatures[0])
		f.Add(whole)
		f.Add(whole[:len(whole)-1])
		f.Add(c.body)
	}
	f.Fuzz(func(t *testing.T, b []byte) {
		want, _, signature, ok := otherOpen(b)
		if !ok {
			isOfNoForm(t, b, b)
			return
		}
		opens(t, b, b, want, signature)
		hasJustThoseBytes(t, b, b)
		if r, err := Check(b, point.Base()); err == nil && !same(r, want) {
			t.Error(b, r)
		}
	})
}
