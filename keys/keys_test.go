package keys

import (
	"bytes"
	"encoding/binary"
	"encoding/hex"
	"math"
	"math/big"
	"math/rand/v2"
	"slices"
	"strings"
	"testing"

	"clapper/api"
	"clapper/sign"
	"clapper/ticket"
)

const (
	full      = math.MaxUint64
	maxSerial = 2147483647
	maxMinute = 1073741824
	fieldSize = 91 // a key's: three bytes ahead of its 88
)

var (
	modulus = hexBig("ffffffff00000001000000000000000000000000ffffffffffffffffffffffff")
	addend  = hexBig("5ac635d8aa3a93e7b3ebbd55769886bc651d06b0cc53b0f63bce3c3e27d2604b")
	order   = hexBig("ffffffff00000000ffffffffffffffffbce6faada7179e84f3b9cac2fc632551")
	largest = api.Num{full, full, full, full}
	far     = api.Point{Far: true}

	// Multiples of the base, as another program told them.
	once  = hexPoint("6b17d1f2e12c4247f8bce6e563a440f277037d812deb33a0f4a13945d898c296", "4fe342e2fe1a7f9b8ee7eb4a7c0f9e162bce33576b315ececbb6406837bf51f5")
	twice = hexPoint("7cf27b188d034f7e8a52380304b51ac3c08969e277f21b35a60b48fc47669978", "07775510db8ed040293d9ac69f7430dbba7dade63ce982299e04b79d227873d1")
	five  = hexPoint("51590b7a515140d2d784c85608668fdfef8c82fd1f5be52421554a0dc3d033ed", "e0c17da8904a727d8ae1bf36bf8a79260d012f00d4d80888d1d0bb44fda16da4")
	ten   = hexPoint("cef66d6b2a3a993e591214d1ea223fb545ca6c471c48306e4c36069404c5723f", "878662a229aaae906e123cdd9d3b4c10590ded29fe751eeeca34bbaa44af0773")
)

func unhex(text string) []byte {
	b, err := hex.DecodeString(strings.Join(strings.Fields(text), ""))
	if err != nil {
		panic(err)
	}
	return b
}

func hexBig(text string) *big.Int { return new(big.Int).SetBytes(unhex(text)) }

// numOf and bigOf go another way than the layers below do.
func numOf(x *big.Int) api.Num {
	b := x.FillBytes(make([]byte, 32))
	return api.Num{
		binary.BigEndian.Uint64(b[24:]), binary.BigEndian.Uint64(b[16:]),
		binary.BigEndian.Uint64(b[8:]), binary.BigEndian.Uint64(b),
	}
}

func numBytes(a api.Num) []byte {
	var b []byte
	for _, word := range slices.Backward(a[:]) {
		b = binary.BigEndian.AppendUint64(b, word)
	}
	return b
}

func bigOf(a api.Num) *big.Int { return new(big.Int).SetBytes(numBytes(a)) }

func hexNum(text string) api.Num { return numOf(hexBig(text)) }

func hexPoint(x, y string) api.Point { return api.Point{X: hexNum(x), Y: hexNum(y)} }

// plus is a number and so many more, below 2^256.
func plus(x *big.Int, more int64) api.Num { return numOf(new(big.Int).Add(x, big.NewInt(more))) }

// small have an X, or a Y, to which p can be added below 2^256.
func small() []api.Point {
	return []api.Point{
		{Y: hexNum("66485c780e2f83d72433bd5d84a06bb6541c2af31dae871728bf856a174f93f4")},
		{X: api.Num{5}, Y: hexNum("459243b9aa581806fe913bce99817ade11ca503c64d9a3c533415c083248fbcc")},
		{X: hexNum("d7325d7646cd60d80a92738ceb345f844cffaf35841022cab176f692de8de1d7"), Y: api.Num{5}},
		{X: hexNum("6655861894c5d2f49bf3dbc1b3b175009530f4300e73f9d1a16c4effb44956f6"), Y: api.Num{11}},
	}
}

// rightQs may be a key's.
func rightQs() []api.Point {
	l := append(small(), once, twice, five, ten)
	for _, q := range l {
		l = append(l, api.Point{X: q.X, Y: numOf(new(big.Int).Sub(modulus, bigOf(q.Y)))})
	}
	return l
}

// wrongQs may not: Far ones, ones that aren't on the curve, and ones with an X
// or Y at p and above.
func wrongQs() []api.Point {
	p := plus(modulus, 0)
	l := []api.Point{
		far, {}, {X: api.Num{1}}, {Y: api.Num{1}}, {X: api.Num{1}, Y: api.Num{1}},
		{X: once.X}, {Y: once.Y}, {X: once.Y, Y: once.X}, {X: once.X, Y: twice.Y}, {X: twice.X, Y: once.Y},
		{X: once.X, Y: once.Y, Far: true}, {X: api.Num{1}, Far: true}, {Y: api.Num{1}, Far: true}, {X: p, Y: p, Far: true},
		{X: p, Y: once.Y}, {X: once.X, Y: p}, {X: p, Y: p}, {X: p}, {Y: p}, {X: plus(modulus, -1)}, {X: plus(modulus, 1)},
		{X: largest, Y: once.Y}, {X: once.X, Y: largest}, {X: largest, Y: largest},
		{X: plus(order, 0), Y: once.Y}, {X: once.X, Y: plus(bigOf(once.Y), 1)}, {X: once.X, Y: plus(bigOf(once.Y), -1)},
		{X: plus(bigOf(once.X), 1), Y: once.Y}, {X: plus(bigOf(once.X), -1), Y: once.Y},
	}
	for _, q := range small()[:2] {
		l = append(l, api.Point{X: numOf(new(big.Int).Add(modulus, bigOf(q.X))), Y: q.Y})
	}
	for _, q := range small()[2:] {
		l = append(l, api.Point{X: q.X, Y: numOf(new(big.Int).Add(modulus, bigOf(q.Y)))})
	}
	return l
}

// otherOn goes by the curve's words alone.
func otherOn(q api.Point) bool {
	x, y := bigOf(q.X), bigOf(q.Y)
	if q.Far || x.Cmp(modulus) >= 0 || y.Cmp(modulus) >= 0 {
		return false
	}
	right := new(big.Int).Mul(x, x)
	right.Sub(right, big.NewInt(3)).Mul(right, x).Add(right, addend)
	return right.Sub(right, y.Mul(y, y)).Mod(right, modulus).Sign() == 0
}

// otherMay goes by the chapter's words, one by one.
func otherMay(l []api.Key) bool {
	for i, k := range l {
		if k.Id < 1 || k.Id > maxSerial || i > 0 && k.Id <= l[i-1].Id {
			return false
		}
		if k.From < 0 || k.From > maxMinute || k.To < k.From || k.To > maxMinute {
			return false
		}
		if !otherOn(k.Q) {
			return false
		}
	}
	return len(l) <= 32
}

func otherFind(l []api.Key, id, at int) (api.Point, bool) {
	for _, k := range l {
		if otherMay(l) && k.Id == id && !(k.From > at) && k.To > at {
			return k.Q, true
		}
	}
	return api.Point{}, false
}

// value is one field's Tag and Bytes.
type value struct {
	tag int
	b   []byte
}

func laid(l ...value) []byte {
	var b []byte
	for _, v := range l {
		b = binary.BigEndian.AppendUint16(append(b, byte(v.tag)), uint16(len(v.b)))
		b = append(b, v.b...)
	}
	return b
}

func eight(number uint64) []byte { return binary.BigEndian.AppendUint64(nil, number) }

// parts are a key's bytes, one part each.
func parts(k api.Key) [][]byte {
	return [][]byte{eight(uint64(k.Id)), numBytes(k.Q.X), numBytes(k.Q.Y), eight(uint64(k.From)), eight(uint64(k.To))}
}

// values are keys' fields, may they be or not.
func values(l []api.Key) []value {
	var fields []value
	for i, k := range l {
		fields = append(fields, value{i + 1, slices.Concat(parts(k)...)})
	}
	return fields
}

func otherBytes(l []api.Key) []byte { return laid(values(l)...) }

// otherParse takes what stands where it stands in a key's field, and asks
// whether all else is as it is of keys.
func otherParse(b []byte) ([]api.Key, bool) {
	var l []api.Key
	for i := 0; i+fieldSize <= len(b) && len(l) < 100; i += fieldSize {
		x, y := new(big.Int).SetBytes(b[i+11:i+43]), new(big.Int).SetBytes(b[i+43:i+75])
		l = append(l, api.Key{
			Id: int(binary.BigEndian.Uint64(b[i+3:])), Q: api.Point{X: numOf(x), Y: numOf(y)},
			From: int(binary.BigEndian.Uint64(b[i+75:])), To: int(binary.BigEndian.Uint64(b[i+83:])),
		})
	}
	return l, otherMay(l) && bytes.Equal(otherBytes(l), b)
}

// key counts from minute 10 on, ahead of minute 20.
func key(id int, q api.Point) api.Key { return api.Key{Id: id, Q: q, From: 10, To: 20} }

// ids are keys that count from minute 10 on, ahead of minute 20, with those Ids.
func ids(l ...int) []api.Key {
	var told []api.Key
	for i, id := range l {
		told = append(told, key(id, []api.Point{once, twice, five, ten}[i%4]))
	}
	return told
}

// many are keys with the Ids from 1 on.
func many(n int) []api.Key {
	var l []int
	for i := range n {
		l = append(l, i+1)
	}
	return ids(l...)
}

// with is a copy of keys with another one at a place.
func with(l []api.Key, at int, k api.Key) []api.Key {
	l = slices.Clone(l)
	l[at] = k
	return l
}

// usual is a ticket of key 1; signed is it, signed with secret 5, whose key is
// five, as a program outside the project told it.
var usual = api.Ticket{Serial: 7, Product: 2, Zones: 3, From: 100, Key: 1}

func signed() []byte {
	return unhex(`
		01 00 37
			01 00 08 00 00 00 00 00 00 00 07
			02 00 08 00 00 00 00 00 00 00 02
			03 00 08 00 00 00 00 00 00 00 03
			04 00 08 00 00 00 00 00 00 00 64
			05 00 08 00 00 00 00 00 00 00 01
		02 00 40
			62f806fdd4b4599220c4b671454761101aa7409d9e5e43fdd9e5673cb9c8bf76
			ad4d05b11ce02f52631e3d9495d4a7ee0aca86261a469301fed608b5e6faa64d`)
}

func mustIssue(t *testing.T, x api.Ticket, secret uint64) []byte {
	t.Helper()
	b, err := ticket.Issue(x, api.Num{secret})
	if err != nil {
		t.Fatal("Issue", x, secret, err)
	}
	return b
}

func mustBytes(t *testing.T, l []api.Key) []byte {
	t.Helper()
	b, err := Bytes(l)
	if err != nil {
		t.Fatal("Bytes", l, err)
	}
	return b
}

func mustParse(t *testing.T, b []byte) []api.Key {
	t.Helper()
	l, err := Parse(b)
	if err != nil {
		t.Fatal("Parse", b, err)
	}
	return l
}

func finds(t *testing.T, name any, l []api.Key, id, at int, q api.Point) {
	t.Helper()
	if got, ok := Find(l, id, at); got != q || !ok {
		t.Error(name, id, at, got, ok)
	}
}

func findsNone(t *testing.T, name any, l []api.Key, id, at int) {
	t.Helper()
	if got, ok := Find(l, id, at); got != (api.Point{}) || ok {
		t.Error(name, id, at, got, ok)
	}
}

func isOfNoForm(t *testing.T, name any, b []byte) {
	t.Helper()
	if l, err := Parse(b); len(l) != 0 || err != error(api.ErrForm) {
		t.Error(name, l, err)
	}
}

func checks(t *testing.T, name any, l []api.Key, b []byte, at int, want api.Ticket) {
	t.Helper()
	if x, err := Check(l, b, at); x != want || err != nil {
		t.Error(name, at, x, err)
	}
}

func fails(t *testing.T, name any, l []api.Key, b []byte, at int, want api.Code) {
	t.Helper()
	if x, err := Check(l, b, at); x != (api.Ticket{}) || err != error(want) {
		t.Error(name, at, x, err, "for", want)
	}
}

// mayBe has bytes, and is parsed as it was.
func mayBe(t *testing.T, name any, l []api.Key) {
	t.Helper()
	if !May(l) {
		t.Error(name, "may not")
	}
	b, err := Bytes(l)
	if err != nil || !bytes.Equal(b, otherBytes(l)) {
		t.Error(name, "bytes", b, err)
	}
	if got, err := Parse(otherBytes(l)); err != nil || !slices.Equal(got, l) {
		t.Error(name, "parsed", got, err)
	}
	for _, k := range l {
		for _, at := range []int{-1, k.From, k.To - 1, k.To} {
			want, counts := otherFind(l, k.Id, at)
			if q, ok := Find(l, k.Id, at); q != want || ok != counts {
				t.Error(name, "found", k.Id, at, q, ok)
			}
		}
	}
}

// mayNotBe has no bytes, and no key that counts; no ticket is even opened by it,
// and the bytes that it would have aren't parsed.
func mayNotBe(t *testing.T, name any, l []api.Key) {
	t.Helper()
	if May(l) {
		t.Error(name, "may")
	}
	if b, err := Bytes(l); b != nil || err != error(api.ErrArg) {
		t.Error(name, "bytes", b, err)
	}
	for _, k := range l {
		for _, at := range []int{10, k.From, k.To - 1} {
			findsNone(t, name, l, k.Id, at)
		}
	}
	for _, b := range [][]byte{nil, signed(), signed()[1:]} {
		fails(t, name, l, b, 10, api.ErrArg)
	}
	if !slices.ContainsFunc(l, func(k api.Key) bool { return k.Q.Far }) {
		isOfNoForm(t, name, otherBytes(l))
	}
}

// about is what mayBe or mayNotBe say, by the chapter's words.
func about(t *testing.T, name any, l []api.Key) {
	t.Helper()
	if otherMay(l) {
		mayBe(t, name, l)
	} else {
		mayNotBe(t, name, l)
	}
}

// P10.1

func TestHowManyKeysMayBe(t *testing.T) {
	mayBe(t, "nil", nil)
	mayBe(t, "empty", []api.Key{})
	mayBe(t, "with room", many(3)[:0])
	for _, n := range []int{1, 2, 3, 31, 32} {
		mayBe(t, n, many(n))
	}
	for _, n := range []int{33, 34, 63, 64, 65, 255, 256, 257, 1000} {
		mayNotBe(t, n, many(n))
	}
}

func TestEachIdAboutItsEnds(t *testing.T) {
	for _, id := range []int{1, 2, 3, 1 << 16, maxSerial - 1, maxSerial} {
		mayBe(t, id, ids(id))
	}
	for _, id := range []int{
		0, -1, -2, -maxSerial, maxSerial + 1, maxSerial + 2, 1<<32 - 1, 1 << 32, 1<<32 + 1, 1<<32 + maxSerial,
		1 << 62, 1<<63 - 1, math.MinInt64, math.MinInt64 + 1, math.MinInt64 + maxSerial,
	} {
		mayNotBe(t, id, ids(id))
		mayNotBe(t, id, slices.Concat(ids(id), ids(5, 6)))
		mayNotBe(t, id, slices.Concat(ids(5, 6), ids(id)))
	}
	mayBe(t, "both ends", ids(1, maxSerial))
	mayBe(t, "at the ends", ids(1, 2, maxSerial-1, maxSerial))
}

func TestIdsRise(t *testing.T) {
	for _, l := range [][]int{
		{1, 1}, {2, 1}, {7, 7}, {7, 6}, {1, 2, 2}, {1, 1, 2}, {1, 2, 1}, {2, 1, 2}, {1, 3, 2}, {3, 1, 2}, {2, 3, 1}, {3, 2, 1},
		{maxSerial, 1}, {maxSerial, maxSerial}, {maxSerial - 1, maxSerial, maxSerial}, {1, 0}, {0, 1}, {-1, 1}, {1, -1}, {1, 5, 4, 6}, {1, 5, 5, 6},
	} {
		mayNotBe(t, l, ids(l...))
	}
	for _, l := range [][]int{{1, 2}, {1, 3}, {2, 3}, {1, 2, 3}, {3, 7, 9}, {5, 1000, maxSerial}} {
		mayBe(t, l, ids(l...))
	}
	for a := range 4 {
		for b := range 4 {
			for c := range 4 {
				about(t, []int{a, b, c}, ids(a, b, c))
			}
		}
	}
}

func TestTheSameKeyTwice(t *testing.T) {
	for _, n := range []int{1, 2, 31} {
		for at := range n {
			l := many(n)
			mayNotBe(t, []int{n, at}, slices.Insert(l, at, l[at]))
		}
	}
	mayBe(t, "one Q twice", []api.Key{key(1, five), key(2, five)})
	mayNotBe(t, "one Id twice, at unlike minutes", []api.Key{{Id: 1, Q: once, From: 0, To: 10}, {Id: 1, Q: five, From: 10, To: 20}})
}

func TestEachQ(t *testing.T) {
	for i, q := range rightQs() {
		mayBe(t, i, []api.Key{key(1, q)})
		mayBe(t, i, []api.Key{key(1, once), key(2, q), key(3, five)})
	}
	for i, q := range wrongQs() {
		if otherOn(q) {
			t.Fatal("on the curve", i)
		}
		mayNotBe(t, i, []api.Key{key(1, q)})
		mayNotBe(t, i, []api.Key{key(1, q), key(2, five)})
		mayNotBe(t, i, []api.Key{key(1, once), key(2, q), key(3, five)})
		mayNotBe(t, i, []api.Key{key(1, once), key(2, five), key(3, q)})
	}
}

func TestEachBitOfAQ(t *testing.T) {
	for at := range 4 {
		for bit := range 64 {
			for _, inY := range []bool{false, true} {
				k := key(1, five)
				word := &k.Q.X[at]
				if inY {
					word = &k.Q.Y[at]
				}
				*word ^= 1 << bit
				if May([]api.Key{k}) || otherOn(k.Q) {
					t.Error(at, bit, inY)
				}
			}
		}
	}
}

func minutes() []int {
	return []int{
		math.MinInt64, -maxMinute, -2, -1, 0, 1, 2, 9, 10, 11, 19, 20, 21, maxMinute - 2, maxMinute - 1, maxMinute,
		maxMinute + 1, maxMinute + 2, 1<<32 - 1, 1 << 32, 1<<32 + 10, 1 << 62, math.MaxInt64,
	}
}

func TestFromAndToAboutTheirEnds(t *testing.T) {
	for _, from := range minutes() {
		for _, to := range minutes() {
			k := api.Key{Id: 2, Q: five, From: from, To: to}
			name := []int{from, to}
			about(t, name, []api.Key{k})
			about(t, name, []api.Key{key(1, once), k, key(3, twice)})
		}
	}
	for _, ends := range [][2]int{{0, 0}, {0, 1}, {0, maxMinute}, {10, 10}, {maxMinute - 1, maxMinute}, {maxMinute, maxMinute}} {
		mayBe(t, ends, []api.Key{{Id: 1, Q: five, From: ends[0], To: ends[1]}})
	}
	for _, ends := range [][2]int{{-1, -1}, {-1, 0}, {-1, 5}, {1, 0}, {10, 9}, {maxMinute, maxMinute - 1}, {0, maxMinute + 1}, {maxMinute, maxMinute + 1}, {maxMinute + 1, maxMinute + 1}} {
		mayNotBe(t, ends, []api.Key{{Id: 1, Q: five, From: ends[0], To: ends[1]}})
	}
}

func TestMinutesOfUnlikeKeysAreTheirOwn(t *testing.T) {
	spans := [][2]int{{0, 10}, {10, 20}, {5, 15}, {0, 0}, {0, maxMinute}, {12, 13}}
	for _, a := range spans {
		for _, b := range spans {
			mayBe(t, []any{a, b}, []api.Key{{Id: 1, Q: once, From: a[0], To: a[1]}, {Id: 2, Q: five, From: b[0], To: b[1]}})
		}
	}
}

// wrongKeys may not be, whatever their place is; ahead of them and behind them
// may be keys of Ids below 50 and above.
func wrongKeys() []api.Key {
	l := []api.Key{
		{}, {Id: 50}, {Id: 0, Q: five, From: 10, To: 20}, {Id: -50, Q: five, From: 10, To: 20}, {Id: maxSerial + 1, Q: five, From: 10, To: 20},
		{Id: 50, Q: five, From: -1, To: 20}, {Id: 50, Q: five, From: 20, To: 10}, {Id: 50, Q: five, From: 10, To: maxMinute + 1},
		{Id: 50, Q: five, From: maxMinute + 1, To: maxMinute + 1},
	}
	for _, q := range wrongQs()[:10] {
		l = append(l, key(50, q))
	}
	return l
}

func TestAWrongKeyAtEachPlace(t *testing.T) {
	for i, k := range wrongKeys() {
		for at := range 3 {
			l := with(ids(1, 2, 3), at, k)
			for j := at + 1; j < 3; j++ {
				l[j].Id += 100
			}
			mayNotBe(t, []int{i, at}, l)
		}
		mayNotBe(t, []any{i, "ahead"}, append([]api.Key{k}, many(31)...))
		mayNotBe(t, []any{i, "behind"}, append(many(31), k))
		mayNotBe(t, []any{i, "between"}, slices.Concat(many(4), []api.Key{k}, ids(101, 102, 103)))
	}
}

func TestKeysOfManyKinds(t *testing.T) {
	r := rand.New(rand.NewPCG(10, 1))
	may := 0
	for i := range 2000 {
		var l []api.Key
		id := 0
		for range r.IntN(4) {
			id += r.IntN(20)
			q := rightQs()[r.IntN(8)]
			if r.IntN(20) == 0 {
				q = wrongQs()[r.IntN(len(wrongQs()))]
			}
			from := r.IntN(maxMinute + 1)
			l = append(l, api.Key{Id: id, Q: q, From: from, To: from - 5 + r.IntN(100)})
		}
		about(t, i, l)
		if otherMay(l) {
			may++
		}
	}
	if may < 500 || may > 1900 {
		t.Error("the keys tell little", may)
	}
}

func TestFindAboutAKeysMinutes(t *testing.T) {
	for _, span := range [][2]int{{10, 20}, {10, 11}, {10, 12}, {0, 1}, {0, 20}, {0, maxMinute}, {maxMinute - 1, maxMinute}} {
		from, to := span[0], span[1]
		l := []api.Key{{Id: 1, Q: five, From: from, To: to}}
		finds(t, span, l, 1, from, five)
		finds(t, span, l, 1, to-1, five)
		finds(t, span, l, 1, (from+to)/2, five)
		for _, at := range []int{from - 1, from - 2, to, to + 1, -1, maxMinute, maxMinute + 1, -maxMinute, from + 1<<32, to - 1 + 1<<32, math.MinInt64, math.MaxInt64} {
			findsNone(t, span, l, 1, at)
		}
	}
}

func TestAKeyWhoseToIsItsFromNeverCounts(t *testing.T) {
	for _, from := range []int{0, 1, 10, maxMinute - 1, maxMinute} {
		l := []api.Key{{Id: 1, Q: five, From: from, To: from}}
		mayBe(t, from, l)
		for _, at := range []int{from - 1, from, from + 1, 0, maxMinute, math.MinInt64, math.MaxInt64} {
			findsNone(t, from, l, 1, at)
		}
	}
}

func TestFindOfAnIdThatIsntThere(t *testing.T) {
	l := ids(2, 5, maxSerial-1)
	for _, id := range []int{0, 1, 3, 4, 6, -2, -5, maxSerial - 2, maxSerial, maxSerial + 1, 2 + 1<<32, math.MinInt64, math.MinInt64 + 2, math.MaxInt64} {
		for _, at := range []int{0, 10, 15, 20} {
			findsNone(t, "three", l, id, at)
			findsNone(t, "none", nil, id, at)
			findsNone(t, "none", []api.Key{}, id, at)
		}
	}
}

func TestFindOfAKeyThatDoesntCountThen(t *testing.T) {
	l := []api.Key{{Id: 1, Q: once, From: 0, To: 10}, {Id: 2, Q: twice, From: 10, To: 20}, {Id: 3, Q: five, From: 0, To: 30}}
	finds(t, "1", l, 1, 9, once)
	findsNone(t, "1", l, 1, 10)
	findsNone(t, "2", l, 2, 9)
	finds(t, "2", l, 2, 10, twice)
	finds(t, "2", l, 2, 19, twice)
	findsNone(t, "2", l, 2, 20)
	finds(t, "3", l, 3, 20, five)
}

func TestFindOfEachOfMaxKeys(t *testing.T) {
	var l []api.Key
	for i := range 32 {
		k := key(3*i+1, rightQs()[i%16])
		k.From, k.To = i, 2*i
		l = append(l, k)
	}
	for i, k := range l {
		for _, at := range []int{0, k.From - 1, k.From, k.To - 1, k.To} {
			for id := k.Id; id < k.Id+2; id++ {
				want, counts := otherFind(l, id, at)
				if q, ok := Find(l, id, at); q != want || ok != counts {
					t.Error(i, id, at, q, ok)
				}
			}
		}
	}
}

func TestFindWithKeysThatMayNotBe(t *testing.T) {
	good := key(60, five)
	finds(t, "alone", []api.Key{good}, 60, 15, five)
	for i, k := range wrongKeys() {
		findsNone(t, []any{"ahead", i}, []api.Key{k, good}, 60, 15)
		findsNone(t, []any{"behind", i}, []api.Key{good, k}, 60, 15)
		if k.Id == 50 {
			k.Id = 70
			findsNone(t, []any{"behind, higher", i}, []api.Key{good, k}, 60, 15)
			k.Id = 60
			findsNone(t, []any{"at", i}, []api.Key{k}, 60, 15)
			findsNone(t, []any{"at, between", i}, []api.Key{key(1, once), k, key(70, once)}, 60, 15)
		}
	}
	findsNone(t, "twice", []api.Key{good, good}, 60, 15)
	findsNone(t, "too many", many(33), 1, 15)
	finds(t, "just so many", many(32), 1, 15, once)
}

func TestKnownBytes(t *testing.T) {
	one := unhex(`
		01 00 58
		00 00 00 00 00 00 00 01
		51590b7a515140d2d784c85608668fdfef8c82fd1f5be52421554a0dc3d033ed
		e0c17da8904a727d8ae1bf36bf8a79260d012f00d4d80888d1d0bb44fda16da4
		00 00 00 00 00 00 00 0a
		00 00 00 00 00 00 00 14`)
	two := unhex(`
		02 00 58
		00 00 00 00 7f ff ff ff
		6b17d1f2e12c4247f8bce6e563a440f277037d812deb33a0f4a13945d898c296
		4fe342e2fe1a7f9b8ee7eb4a7c0f9e162bce33576b315ececbb6406837bf51f5
		00 00 00 00 00 00 00 00
		00 00 00 00 40 00 00 00`)
	three := unhex(`
		01 00 58
		00 00 00 00 01 02 03 04
		0000000000000000000000000000000000000000000000000000000000000005
		459243b9aa581806fe913bce99817ade11ca503c64d9a3c533415c083248fbcc
		00 00 00 00 05 06 07 08
		00 00 00 00 09 0a 0b 0c`)
	for _, c := range []struct {
		l []api.Key
		b []byte
	}{
		{nil, nil},
		{[]api.Key{}, nil},
		{[]api.Key{key(1, five)}, one},
		{[]api.Key{key(1, five), {Id: maxSerial, Q: once, From: 0, To: maxMinute}}, slices.Concat(one, two)},
		{[]api.Key{{Id: 0x01020304, Q: small()[1], From: 0x05060708, To: 0x090a0b0c}}, three},
	} {
		if b, err := Bytes(c.l); err != nil || !bytes.Equal(b, c.b) {
			t.Error(c.l, b, err)
		}
		if l, err := Parse(c.b); err != nil || !slices.Equal(l, c.l) {
			t.Error(c.b, l, err)
		}
	}
}

func TestBytesOfEachCount(t *testing.T) {
	for n := range 33 {
		b := mustBytes(t, many(n))
		if len(b) != fieldSize*n || !bytes.Equal(b, otherBytes(many(n))) {
			t.Error(n, b)
		}
		for i := range n {
			if b[fieldSize*i] != byte(i+1) {
				t.Error("Tag", n, i, b[fieldSize*i])
			}
		}
	}
}

func TestParseOfNoBytes(t *testing.T) {
	for _, b := range [][]byte{nil, {}, make([]byte, 5)[:0]} {
		if l, err := Parse(b); len(l) != 0 || err != nil {
			t.Error(b, l, err)
		}
	}
}

func TestParseOfBytesCutOff(t *testing.T) {
	l := []api.Key{key(1, five), key(2, once), key(7, small()[0])}
	b := otherBytes(l)
	for at := range b {
		if at%fieldSize != 0 {
			isOfNoForm(t, at, b[:at])
			isOfNoForm(t, at, bytes.Clone(b[:at]))
		} else if got, err := Parse(b[:at]); err != nil || !slices.Equal(got, l[:at/fieldSize]) {
			t.Error(at, got, err)
		}
		if at > 0 {
			isOfNoForm(t, []any{"from", at}, b[at:])
		}
		isOfNoForm(t, []any{"without", at}, slices.Delete(bytes.Clone(b), at, at+1))
		isOfNoForm(t, []any{"one more", at}, slices.Insert(bytes.Clone(b), at, b[at]^1))
	}
}

func TestParseOfMoreBytes(t *testing.T) {
	for _, l := range [][]api.Key{nil, many(1), many(2), many(31), many(32)} {
		b := otherBytes(l)
		for more := range 256 {
			isOfNoForm(t, more, append(bytes.Clone(b), byte(more)))
			isOfNoForm(t, more, append(bytes.Clone(b), byte(more), 0, 0))
			isOfNoForm(t, more, append([]byte{byte(more)}, b...))
		}
	}
	b := otherBytes(many(2))
	isOfNoForm(t, "twice", slices.Concat(b, b))
	isOfNoForm(t, "many", bytes.Repeat([]byte{1}, 1<<16))
}

func TestParseWithEachByteChanged(t *testing.T) {
	for name, l := range map[string][]api.Key{
		"one": {key(1, five)}, "small": {key(1000, small()[0])}, "all": {{Id: maxSerial, Q: once, From: 0, To: maxMinute}},
		"two": {key(5, five), {Id: 300, Q: small()[2], From: 255, To: 256}},
	} {
		whole, parsed := otherBytes(l), 0
		for at := range whole {
			for to := range 256 {
				b := bytes.Clone(whole)
				b[at] = byte(to)
				want, ok := otherParse(b)
				if !ok {
					isOfNoForm(t, []any{name, at, to}, b)
					continue
				}
				parsed++
				if got, err := Parse(b); err != nil || !slices.Equal(got, want) {
					t.Error(name, at, to, got, err)
				}
			}
		}
		if parsed < 300 {
			t.Error("the changes tell little", name, parsed)
		}
	}
}

func TestFieldsOfOtherTags(t *testing.T) {
	l := many(3)
	for at := range l {
		for tag := range 256 {
			fields := values(l)
			fields[at].tag = tag
			if tag != at+1 {
				isOfNoForm(t, []int{at, tag}, laid(fields...))
			}
		}
	}
	for _, first := range []int{0, 2, 3, 253} {
		fields := values(l)
		for at := range fields {
			fields[at].tag = first + at
		}
		isOfNoForm(t, first, laid(fields...))
	}
	for at := range l {
		left := laid(slices.Delete(values(l), at, at+1)...)
		if at < 2 {
			isOfNoForm(t, []any{"left out", at}, left)
		} else if got := mustParse(t, left); !slices.Equal(got, l[:2]) {
			t.Error("the last one left out", got)
		}
		isOfNoForm(t, []any{"twice", at}, laid(slices.Insert(values(l), at, values(l)[at])...))
	}
	for _, tag := range []int{0, 4, 5, 255} {
		for _, b := range [][]byte{nil, {1}, make([]byte, 88)} {
			isOfNoForm(t, []any{"more", tag, len(b)}, laid(append(values(l), value{tag, b})...))
		}
	}
}

func TestFieldsOfOtherLengths(t *testing.T) {
	whole := slices.Concat(parts(key(2, five))...)
	long := append(bytes.Clone(whole), make([]byte, 400)...)
	lead := append(make([]byte, 400), whole...)
	for n := range 300 {
		for _, b := range [][]byte{long[:n], lead[len(lead)-n:], make([]byte, n), bytes.Repeat(whole, 4)[:n]} {
			if n == 88 && bytes.Equal(b, whole) {
				continue
			}
			isOfNoForm(t, []any{"alone", n}, laid(value{1, b}))
			isOfNoForm(t, []any{"ahead", n}, laid(append([]value{{1, b}}, value{2, whole})...))
			isOfNoForm(t, []any{"behind", n}, laid(append(values(many(1)), value{2, b})...))
		}
	}
	isOfNoForm(t, "65535", laid(value{1, make([]byte, 65535)}))
	isOfNoForm(t, "twice 88", laid(value{1, slices.Concat(whole, whole)}))
	for at := range 5 {
		isOfNoForm(t, []any{"part left out", at}, laid(value{1, slices.Concat(slices.Delete(parts(key(2, five)), at, at+1)...)}))
	}
}

func TestPartsInAnotherOrder(t *testing.T) {
	k := api.Key{Id: 3, Q: five, From: 5, To: 7}
	for a := range 5 {
		for b := range a {
			l := parts(k)
			l[a], l[b] = l[b], l[a]
			swapped := laid(value{1, slices.Concat(l...)})
			want, ok := otherParse(swapped)
			got, err := Parse(swapped)
			if (err == nil) != ok || ok && !slices.Equal(got, want) || !ok && err != error(api.ErrForm) {
				t.Error(a, b, got, err)
			}
		}
	}
	id, q := eight(3), slices.Concat(numBytes(five.X), numBytes(five.Y))
	isOfNoForm(t, "Q first", laid(value{1, slices.Concat(q, id, eight(5), eight(7))}))
	isOfNoForm(t, "Q last", laid(value{1, slices.Concat(id, eight(5), eight(7), q)}))
	isOfNoForm(t, "four fields", laid(value{1, id}, value{2, q}, value{3, eight(5)}, value{4, eight(7)}))
}

func TestNumbersOf2To63AndAbove(t *testing.T) {
	k := api.Key{Id: 3, Q: five, From: 5, To: 7}
	for _, at := range []int{0, 3, 4} {
		low := binary.BigEndian.Uint64(parts(k)[at])
		for _, number := range []uint64{1 << 63, 1<<63 + low, 1<<63 + 1<<62, math.MaxUint64, math.MaxUint64 - low + 1, 1<<63 - 1, 1 << 62, 1<<62 + low, 1<<32 + low} {
			l := parts(k)
			l[at] = eight(number)
			b := slices.Concat(l...)
			isOfNoForm(t, []any{at, number}, laid(value{1, b}))
			isOfNoForm(t, []any{at, number}, laid(value{1, b}, value{2, slices.Concat(parts(key(9, once))...)}))
			isOfNoForm(t, []any{at, number}, laid(value{1, slices.Concat(parts(key(1, once))...)}, value{2, b}))
		}
	}
}

// P10.2

func TestNoTicketChecksWithoutKeys(t *testing.T) {
	for _, l := range [][]api.Key{nil, {}, many(2)[:0]} {
		for _, at := range minutes() {
			fails(t, "a ticket", l, signed(), at, api.ErrNone)
			fails(t, "none", l, nil, at, api.ErrForm)
			fails(t, "cut off", l, signed()[:124], at, api.ErrForm)
		}
	}
}

func TestATicketChecksWhileItsKeyCounts(t *testing.T) {
	for _, span := range [][2]int{{10, 20}, {10, 11}, {0, 1}, {0, maxMinute}, {maxMinute - 1, maxMinute}} {
		from, to := span[0], span[1]
		l := []api.Key{{Id: 1, Q: five, From: from, To: to}}
		checks(t, span, l, signed(), from, usual)
		checks(t, span, l, signed(), to-1, usual)
		for _, at := range []int{from - 1, to, to + 1, -1, -maxMinute, maxMinute, maxMinute + 1, from + 1<<32, math.MinInt64, math.MaxInt64} {
			fails(t, span, l, signed(), at, api.ErrNone)
		}
	}
	for _, at := range []int{9, 10, 11} {
		fails(t, "never", []api.Key{{Id: 1, Q: five, From: 10, To: 10}}, signed(), at, api.ErrNone)
	}
}

func TestATicketsOwnMinuteDoesntMatter(t *testing.T) {
	for _, from := range []int{0, 9, 10, 15, 20, maxMinute} {
		x := usual
		x.From = from
		checks(t, from, []api.Key{key(1, five)}, mustIssue(t, x, 5), 10, x)
		fails(t, from, []api.Key{key(1, five)}, mustIssue(t, x, 5), 20, api.ErrNone)
	}
}

func TestATicketOfEachKey(t *testing.T) {
	l := []api.Key{key(1, once), key(2, twice), key(5, five), key(maxSerial, ten)}
	secrets := []uint64{1, 2, 5, 10}
	for i, k := range l {
		for j := range l {
			x := api.Ticket{Serial: 100 + i, Product: 16, Zones: 255, From: 3, Key: l[j].Id}
			b := mustIssue(t, x, secrets[i])
			if i == j {
				checks(t, k.Id, l, b, 15, x)
			} else {
				fails(t, []int{i, j}, l, b, 15, api.ErrKey)
			}
			fails(t, []int{i, j}, l, b, 20, api.ErrNone)
		}
	}
}

func TestATicketOfAKeyThatNobodyHas(t *testing.T) {
	l := ids(2, 5, 9)
	for _, id := range []int{1, 3, 4, 6, 8, 10, maxSerial} {
		for _, secret := range []uint64{1, 2, 5, 77} {
			x := usual
			x.Key = id
			fails(t, id, l, mustIssue(t, x, secret), 15, api.ErrNone)
		}
	}
}

func TestAKeyThatDoesntCountIsntReplacedByAnother(t *testing.T) {
	l := []api.Key{{Id: 1, Q: five, From: 0, To: 10}, {Id: 2, Q: five, From: 10, To: 20}}
	checks(t, "its own", l, signed(), 9, usual)
	fails(t, "the other's", l, signed(), 10, api.ErrNone)
	x := usual
	x.Key = 2
	fails(t, "ahead", l, mustIssue(t, x, 5), 9, api.ErrNone)
	checks(t, "the other", l, mustIssue(t, x, 5), 10, x)
}

func TestATicketOfAnotherOnesKey(t *testing.T) {
	negative := api.Point{X: five.X, Y: numOf(new(big.Int).Sub(modulus, bigOf(five.Y)))}
	for i, q := range append(small(), once, twice, ten, negative) {
		l := []api.Key{key(1, q), key(2, five)}
		fails(t, i, l, signed(), 10, api.ErrKey)
		fails(t, i, l, signed(), 19, api.ErrKey)
		fails(t, i, l, signed(), 9, api.ErrNone)
		fails(t, i, l, signed(), 20, api.ErrNone)
	}
}

func TestWhichErrorIsFirst(t *testing.T) {
	good := []api.Key{key(1, five)}
	bad := []api.Key{key(1, far)}
	forged := signed()
	forged[124] ^= 1
	for _, c := range []struct {
		name string
		l    []api.Key
		b    []byte
		at   int
		want api.Code
	}{
		{"all wrong", bad, nil, 30, api.ErrArg},
		{"keys, and form", bad, signed()[1:], 15, api.ErrArg},
		{"keys, and minute", bad, signed(), 30, api.ErrArg},
		{"keys, and signature", bad, forged, 15, api.ErrArg},
		{"keys", bad, signed(), 15, api.ErrArg},
		{"keys behind the one", append(good, key(2, far)), signed(), 15, api.ErrArg},
		{"form, and minute", good, signed()[1:], 30, api.ErrForm},
		{"form", good, signed()[1:], 15, api.ErrForm},
		{"minute, and signature", good, forged, 30, api.ErrNone},
		{"no key, and signature", ids(2), forged, 15, api.ErrNone},
		{"minute", good, signed(), 30, api.ErrNone},
		{"no key", ids(2), signed(), 15, api.ErrNone},
		{"signature", good, forged, 15, api.ErrKey},
	} {
		fails(t, c.name, c.l, c.b, c.at, c.want)
	}
	checks(t, "nothing wrong", good, signed(), 15, usual)
}

func TestCheckOfBytesThatArentATickets(t *testing.T) {
	l, whole := []api.Key{key(1, five)}, signed()
	for at := range whole {
		fails(t, at, l, whole[:at], 15, api.ErrForm)
		fails(t, at, l, whole[at+1:], 15, api.ErrForm)
	}
	for more := range 256 {
		fails(t, more, l, append(bytes.Clone(whole), byte(more)), 15, api.ErrForm)
	}
	fails(t, "the body", l, whole[3:58], 15, api.ErrForm)
	fails(t, "keys", l, otherBytes(l), 15, api.ErrForm)
	fails(t, "large", l, make([]byte, 1<<17), 15, api.ErrForm)
}

func TestCheckWithEachByteChanged(t *testing.T) {
	l, whole, opened := []api.Key{key(1, five), key(3, once)}, signed(), 0
	for at := range whole {
		for bit := range 8 {
			b := bytes.Clone(whole)
			b[at] ^= 1 << bit
			x, _, err := ticket.Open(b)
			switch {
			case err != nil:
				fails(t, []int{at, bit}, l, b, 15, api.ErrForm)
			case x.Key != 1 && x.Key != 3:
				fails(t, []int{at, bit}, l, b, 15, api.ErrNone)
			default:
				opened++
				fails(t, []int{at, bit}, l, b, 15, api.ErrKey)
			}
		}
	}
	if opened < 64*8+50 {
		t.Error("the changes tell little", opened)
	}
}

// P10.3

// callAll makes each call with keys, may they be or not.
func callAll(l []api.Key) {
	May(l)
	Bytes(l)
	for _, at := range []int{-1, 10, 15, 20} {
		Find(l, 1, at)
		Check(l, signed(), at)
		Check(l, nil, at)
	}
}

func TestKeysThatAreHandedInStay(t *testing.T) {
	lists := [][]api.Key{{key(1, five)}, many(32), many(33), ids(2, 1), ids(1, 1), wrongKeys(), {key(1, far)}}
	for i, l := range lists {
		mark := key(99, ten)
		handed := append(slices.Clone(l), mark, mark)
		callAll(handed[:len(l)])
		if !slices.Equal(handed[:len(l)], l) || handed[len(l)] != mark || handed[len(l)+1] != mark {
			t.Error(i, handed)
		}
	}
}

func TestBytesThatAreHandedInStay(t *testing.T) {
	l := many(3)
	for i, b := range [][]byte{
		otherBytes(l), otherBytes(l)[:200], append(otherBytes(l), 7), {}, otherBytes(many(33)), otherBytes(ids(2, 1)),
		signed(), signed()[:124], append(signed(), 0), signed()[3:58],
	} {
		handed := append(bytes.Clone(b), "marks"...)
		Parse(handed[:len(b)])
		Check(l, handed[:len(b)], 15)
		Check([]api.Key{key(1, five)}, handed[:len(b)], 15)
		Check(ids(2, 1), handed[:len(b)], 15)
		if string(handed) != string(b)+"marks" {
			t.Error(i, handed)
		}
	}
}

// spoil changes all that a list of bytes holds, and has room for.
func spoil(b []byte) {
	b = b[:cap(b)]
	for i := range b {
		b[i] ^= 0xff
	}
}

// spoilKeys likewise.
func spoilKeys(l []api.Key) {
	l = l[:cap(l)]
	for i := range l {
		l[i] = api.Key{Id: -1, From: 5, To: 3, Q: api.Point{X: largest, Far: true}}
	}
}

func TestBytesThatWereToldAreTheCallers(t *testing.T) {
	for _, l := range [][]api.Key{many(1), many(2), many(32)} {
		was, first, second := slices.Clone(l), mustBytes(t, l), mustBytes(t, l)
		spoil(first)
		if !slices.Equal(l, was) || !bytes.Equal(second, otherBytes(was)) || !bytes.Equal(mustBytes(t, l), second) {
			t.Error(len(l))
		}
	}
}

func TestKeysThatWereToldAreTheCallers(t *testing.T) {
	for _, l := range [][]api.Key{many(1), many(2), many(32)} {
		b := otherBytes(l)
		first, second := mustParse(t, b), mustParse(t, b)
		spoilKeys(first)
		if !bytes.Equal(b, otherBytes(l)) || !slices.Equal(second, l) || !slices.Equal(mustParse(t, b), l) {
			t.Error(len(l))
		}
		spoil(b)
		if !slices.Equal(second, l) {
			t.Error("hangs on the bytes", len(l))
		}
	}
}

func TestBytesDontHangOnTheKeys(t *testing.T) {
	l := many(5)
	b, want := mustBytes(t, l), otherBytes(l)
	q, ok := Find(l, 3, 15)
	spoilKeys(l)
	if !bytes.Equal(b, want) || q != five || !ok {
		t.Error(b, q, ok)
	}
	mayNotBe(t, "spoilt", l)
}

func TestWhatWasToldStaysWhenMoreIsTold(t *testing.T) {
	b, l := mustBytes(t, many(3)), mustParse(t, otherBytes(many(3)))
	mustBytes(t, ids(7, 8, 9, 10))
	mustParse(t, otherBytes(ids(7, 8, 9, 10)))
	Parse(otherBytes(many(3))[1:])
	Bytes(ids(2, 1))
	callAll(ids(1, 4))
	if !bytes.Equal(b, otherBytes(many(3))) || !slices.Equal(l, many(3)) {
		t.Error(b, l)
	}
}

func TestNothingIsKept(t *testing.T) {
	l := []api.Key{key(1, five)}
	for range 3 {
		checks(t, "with", l, signed(), 10, usual)
		fails(t, "without", nil, signed(), 10, api.ErrNone)
		fails(t, "with another", []api.Key{key(1, once)}, signed(), 10, api.ErrKey)
		fails(t, "behind it", l, signed(), 20, api.ErrNone)
		finds(t, "with", l, 1, 10, five)
		findsNone(t, "without", nil, 1, 10)
	}
}

// P10.4

// chosen are keys that may be, as many as asked for.
func chosen(r *rand.Rand, n int) []api.Key {
	var l []api.Key
	id := 0
	for range n {
		id += 1 + r.IntN(maxSerial/40)
		from := r.IntN(maxMinute + 1)
		l = append(l, api.Key{Id: id, Q: rightQs()[r.IntN(16)], From: from, To: from + r.IntN(maxMinute+1-from)})
	}
	return l
}

func TestKeysAreParsedAsTheyWere(t *testing.T) {
	r := rand.New(rand.NewPCG(10, 2))
	for n := range 33 {
		for range 3 {
			l := chosen(r, n)
			b := mustBytes(t, l)
			if got := mustParse(t, b); !slices.Equal(got, l) || !bytes.Equal(mustBytes(t, got), b) {
				t.Error(n, got)
			}
		}
	}
}

func TestWhatIsParsedHasJustThoseBytes(t *testing.T) {
	r := rand.New(rand.NewPCG(10, 3))
	parsed, refused := 0, 0
	for i := range 3000 {
		b := otherBytes(chosen(r, r.IntN(4)))
		for range r.IntN(3) {
			if len(b) > 0 {
				b[r.IntN(len(b))] = byte(r.IntN(256))
			}
		}
		want, ok := otherParse(b)
		if !ok {
			isOfNoForm(t, i, b)
			refused++
			continue
		}
		parsed++
		if l := mustParse(t, b); !slices.Equal(l, want) || !May(l) || !bytes.Equal(mustBytes(t, l), b) {
			t.Error(i, l)
		}
	}
	if parsed < 300 || refused < 300 {
		t.Error("the bytes tell little", parsed, refused)
	}
}

func TestWithAKeyMoreWhatCheckedChecks(t *testing.T) {
	x := usual
	x.Key = 5
	b, own := mustIssue(t, x, 5), key(5, five)
	for _, q := range append(small(), once, five) {
		for _, span := range [][2]int{{10, 20}, {0, 10}, {20, 30}, {0, maxMinute}, {15, 15}} {
			ahead := api.Key{Id: 4, Q: q, From: span[0], To: span[1]}
			behind := ahead
			behind.Id = 6
			for name, l := range map[string][]api.Key{"ahead": {ahead, own}, "behind": {own, behind}, "both": {ahead, own, behind}} {
				checks(t, name, l, b, 10, x)
				checks(t, name, l, b, 19, x)
				fails(t, name, l, b, 9, api.ErrNone)
				fails(t, name, l, b, 20, api.ErrNone)
			}
		}
	}
}

func TestWithKeysMoreUpToMaxKeys(t *testing.T) {
	x := usual
	x.Key = 100
	b := mustIssue(t, x, 5)
	for ahead := range 32 {
		l := append(many(ahead), key(100, five))
		for len(l) < 32 {
			checks(t, []int{ahead, len(l)}, l, b, 15, x)
			for range min(8, 32-len(l)) {
				l = append(l, key(100+len(l), once))
			}
		}
		checks(t, ahead, l, b, 15, x)
		fails(t, ahead, append(l, key(1000, once)), b, 15, api.ErrArg)
	}
}

func TestKeysThatWereParsedCheckTheSame(t *testing.T) {
	q, err := sign.Public(api.Num{77})
	if err != nil {
		t.Fatal(err)
	}
	l := []api.Key{key(1, five), key(2, q)}
	again := mustParse(t, mustBytes(t, l))
	x := api.Ticket{Serial: maxSerial, Product: 1, Zones: 128, From: 5, Key: 2}
	checks(t, "1", again, signed(), 15, usual)
	checks(t, "2", again, mustIssue(t, x, 77), 15, x)
	fails(t, "another's", again, mustIssue(t, x, 78), 15, api.ErrKey)
}

// P1

func TestEveryMinuteAndIdEnds(t *testing.T) {
	for _, l := range [][]api.Key{nil, many(1), many(33), wrongKeys(), ids(maxSerial, math.MinInt64)} {
		for _, at := range minutes() {
			for _, id := range []int{math.MinInt64, -1, 0, 1, maxSerial, math.MaxInt64} {
				want, counts := otherFind(l, id, at)
				if q, ok := Find(l, id, at); q != want || ok != counts {
					t.Error(len(l), id, at, q, ok)
				}
			}
		}
	}
}

func FuzzParse(f *testing.F) {
	for n := range 4 {
		b := otherBytes(many(n))
		f.Add(b)
		f.Add(append(b, 1))
	}
	f.Fuzz(func(t *testing.T, b []byte) {
		want, ok := otherParse(b)
		if !ok {
			isOfNoForm(t, b, b)
			return
		}
		if l, err := Parse(b); err != nil || !slices.Equal(l, want) {
			t.Error(b, l, err)
		}
	})
}
