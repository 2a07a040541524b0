package point

import (
	"bytes"
	"encoding/hex"
	"math"
	"math/big"
	"math/rand/v2"
	"slices"
	"testing"

	"clapper/api"
)

const full = math.MaxUint64

var (
	far     = api.Point{Far: true}
	largest = api.Num{full, full, full, full}
	modulus = hexBig("ffffffff00000001000000000000000000000000ffffffffffffffffffffffff")
	order   = hexBig("ffffffff00000000ffffffffffffffffbce6faada7179e84f3b9cac2fc632551")
	added   = hexBig("5ac635d8aa3a93e7b3ebbd55769886bc651d06b0cc53b0f63bce3c3e27d2604b")
	base    = hexPoint("6b17d1f2e12c4247f8bce6e563a440f277037d812deb33a0f4a13945d898c296",
		"4fe342e2fe1a7f9b8ee7eb4a7c0f9e162bce33576b315ececbb6406837bf51f5")
)

func hexBig(text string) *big.Int {
	x, ok := new(big.Int).SetString(text, 16)
	if !ok {
		panic(text)
	}
	return x
}

// numOf and bigOf go another way than the layers below do, so that the tests
// don't lean on what they test.
func numOf(x *big.Int) api.Num {
	var a api.Num
	rest, word := new(big.Int).Set(x), new(big.Int).SetUint64(full)
	for i := range a {
		a[i] = new(big.Int).And(rest, word).Uint64()
		rest.Rsh(rest, 64)
	}
	return a
}

func bigOf(a api.Num) *big.Int {
	x := new(big.Int)
	for _, w := range slices.Backward(a[:]) {
		x.Lsh(x, 64)
		x.Or(x, new(big.Int).SetUint64(w))
	}
	return x
}

func hexNum(text string) api.Num { return numOf(hexBig(text)) }

func hexPoint(x, y string) api.Point { return api.Point{X: hexNum(x), Y: hexNum(y)} }

// orderPlus is n and so many more.
func orderPlus(more int64) api.Num { return numOf(new(big.Int).Add(order, big.NewInt(more))) }

func modulusPlus(a api.Num) api.Num { return numOf(new(big.Int).Add(modulus, bigOf(a))) }

// otherSum is the sum by the document's own words, with an inverse at each step.
func otherSum(a, b api.Point) api.Point {
	if a.Far {
		return b
	}
	if b.Far {
		return a
	}
	x1, y1, x2, y2 := bigOf(a.X), bigOf(a.Y), bigOf(b.X), bigOf(b.Y)
	above, below := new(big.Int).Sub(y2, y1), new(big.Int).Sub(x2, x1)
	if below.Sign() == 0 {
		if above.Sign() != 0 || y1.Sign() == 0 {
			return far
		}
		above.Mul(x1, x1).Sub(above, big.NewInt(1)).Mul(above, big.NewInt(3))
		below.Lsh(y1, 1)
	}
	below.Mod(below, modulus)
	slope := new(big.Int).ModInverse(below, modulus)
	slope.Mul(slope, above)
	x := new(big.Int).Mul(slope, slope)
	x.Sub(x, x1).Sub(x, x2).Mod(x, modulus)
	y := new(big.Int).Sub(x1, x)
	y.Mul(y, slope).Sub(y, y1).Mod(y, modulus)
	return api.Point{X: numOf(x), Y: numOf(y)}
}

// otherMultiple takes k's bits from the lowest on, as the package doesn't.
func otherMultiple(k api.Num, a api.Point) api.Point {
	sum, x := far, bigOf(k)
	for i := range x.BitLen() {
		if x.Bit(i) == 1 {
			sum = otherSum(sum, a)
		}
		a = otherSum(a, a)
	}
	return sum
}

// knownMultiple is k times the base.
type knownMultiple struct {
	k api.Num
	a api.Point
}

// known are multiples of the base, as another program told them.
func known() []knownMultiple {
	return []knownMultiple{
		{api.Num{1}, base},
		{api.Num{2}, hexPoint("7cf27b188d034f7e8a52380304b51ac3c08969e277f21b35a60b48fc47669978", "07775510db8ed040293d9ac69f7430dbba7dade63ce982299e04b79d227873d1")},
		{api.Num{3}, hexPoint("5ecbe4d1a6330a44c8f7ef951d4bf165e6c6b721efada985fb41661bc6e7fd6c", "8734640c4998ff7e374b06ce1a64a2ecd82ab036384fb83d9a79b127a27d5032")},
		{api.Num{4}, hexPoint("e2534a3532d08fbba02dde659ee62bd0031fe2db785596ef509302446b030852", "e0f1575a4c633cc719dfee5fda862d764efc96c3f30ee0055c42c23f184ed8c6")},
		{api.Num{5}, hexPoint("51590b7a515140d2d784c85608668fdfef8c82fd1f5be52421554a0dc3d033ed", "e0c17da8904a727d8ae1bf36bf8a79260d012f00d4d80888d1d0bb44fda16da4")},
		{api.Num{10}, hexPoint("cef66d6b2a3a993e591214d1ea223fb545ca6c471c48306e4c36069404c5723f", "878662a229aaae906e123cdd9d3b4c10590ded29fe751eeeca34bbaa44af0773")},
		{api.Num{20}, hexPoint("83a01a9378395bab9bcd6a0ad03cc56d56e6b19250465a94a234dc4c6b28da9a", "76e49b6de2f73234ae6a5eb9d612b75c9f2202bb6923f54ff8240aaa86f640b8")},
		{hexNum("18ebbb95eed0e13"), hexPoint("339150844ec15234807fe862a86be77977dbfb3ae3d96f4c22795513aeaab82f", "b1c14ddfdc8ec1b2583f51e85a5eb3a155840f2034730e9b5ada38b674336a21")},
		{api.Num{0, 0, 1}, hexPoint("447d739beedb5e67fb982fd588c6766efc35ff7dc297eac357c84fc9d789bd85", "2d4825ab834131eee12e9d953a4aaff73d349b95a7fae5000c7e33c972e25b32")},
		{api.Num{0, 0, 0, 1 << 63}, hexPoint("77b20a912e6b23135066e911891524bc4efe3560e3e92350b52dec8f375f2b54", "a3dc291825cea3f7f7b10bfcdd038a72df623da1e850e0f1caa801fcd6cc67ff")},
		{largest, hexPoint("f72cbd240e26c0d21b1023179586eb532c6102c49c3677cc1a3d132b9db9d31a", "43e4ca77e2a36621dc0dbd91bfe7a5d223250ef0cdca831ee453d93fa83408a7")},
		{orderPlus(-2), hexPoint("7cf27b188d034f7e8a52380304b51ac3c08969e277f21b35a60b48fc47669978", "f888aaee24712fc0d6c26539608bcf244582521ac3167dd661fb4862dd878c2e")},
		{hexNum("7fffffff800000007fffffffffffffffde737d56d38bcf4279dce5617e3192a8"), hexPoint("2afa386b3f2bdcdb83f4d83f8fa3874d7b74dcb454bd644fdd6bf3d1f2da8db6", "72184be1caa8563462b536f10852d665ae8a64fdf1eb8d4c946ad589796f729c")},
	}
}

// smallX and smallY have an X, or a Y, to which p can be added below 2^256.
func smallX() []api.Point {
	return []api.Point{
		hexPoint("0", "66485c780e2f83d72433bd5d84a06bb6541c2af31dae871728bf856a174f93f4"),
		hexPoint("5", "459243b9aa581806fe913bce99817ade11ca503c64d9a3c533415c083248fbcc"),
		hexPoint("9", "8e14e8432caf2e23caaa94f7d33315cbfbc522763c63a432db1812e48fe7b297"),
	}
}

func smallY() []api.Point {
	return []api.Point{
		hexPoint("d7325d7646cd60d80a92738ceb345f844cffaf35841022cab176f692de8de1d7", "5"),
		hexPoint("9b21c2de1da31d68731dbdaf97d7ab3f979131e28e3dc5b2077d5a7187914a78", "6"),
		hexPoint("6655861894c5d2f49bf3dbc1b3b175009530f4300e73f9d1a16c4effb44956f6", "b"),
	}
}

func otherNeg(a api.Point) api.Point {
	if !a.Far {
		a.Y = numOf(new(big.Int).Sub(modulus, bigOf(a.Y)))
	}
	return a
}

// points are Far, points of small and of large multiples of the base, some at
// the ends of what X and Y can be, and the negatives of all.
func points() []api.Point {
	l := append(smallX(), smallY()...)
	for _, c := range known() {
		l = append(l, c.a)
	}
	for _, a := range l {
		l = append(l, otherNeg(a))
	}
	return append(l, far)
}

// chosen makes numbers that look unlike each other, and are the same in each run.
func chosen(seed uint64) func() api.Num {
	r := rand.New(rand.NewPCG(seed, 5))
	return func() api.Num { return api.Num{r.Uint64(), r.Uint64(), r.Uint64(), r.Uint64()} }
}

// offCurve are points that aren't on the curve.
func offCurve() []api.Point {
	l := []api.Point{
		{}, {X: api.Num{1}}, {Y: api.Num{1}}, {X: largest}, {Y: largest}, {X: largest, Y: largest},
		{X: base.Y, Y: base.X}, {X: base.X}, {Y: base.Y},
		{X: base.X, Y: base.Y, Far: true}, {X: base.X, Far: true}, {Y: base.Y, Far: true},
		{X: api.Num{1}, Far: true}, {Y: api.Num{1}, Far: true}, {X: api.Num{0, 0, 0, 1}, Far: true}, {Y: api.Num{0, 0, 0, 1}, Far: true},
		{X: numOf(modulus), Far: true}, {Y: numOf(modulus), Far: true},
		{X: numOf(modulus), Y: numOf(modulus)},
	}
	for _, a := range smallX() {
		l = append(l, api.Point{X: modulusPlus(a.X), Y: a.Y})
	}
	for _, a := range smallY() {
		l = append(l, api.Point{X: a.X, Y: modulusPlus(a.Y)})
	}
	for _, a := range points() {
		if a.Far {
			continue
		}
		for _, d := range []int64{-1, 1} {
			l = append(l, api.Point{X: a.X, Y: numOf(new(big.Int).Add(bigOf(a.Y), big.NewInt(d)))})
		}
	}
	return l
}

func mustAdd(t *testing.T, a, b api.Point) api.Point {
	t.Helper()
	sum, err := Add(a, b)
	if err != nil {
		t.Fatal("Add", a, b, err)
	}
	return sum
}

func mustMul(t *testing.T, k api.Num, a api.Point) api.Point {
	t.Helper()
	multiple, err := Mul(k, a)
	if err != nil {
		t.Fatal("Mul", k, a, err)
	}
	return multiple
}

func mustNeg(t *testing.T, a api.Point) api.Point {
	t.Helper()
	negative, err := Neg(a)
	if err != nil {
		t.Fatal("Neg", a, err)
	}
	return negative
}

// P5.1

func TestTheNumbersAreTheDocuments(t *testing.T) {
	if P() != numOf(modulus) || N() != numOf(order) || Base() != base {
		t.Error(P(), N(), Base())
	}
}

func TestOnOfPointsOnTheCurve(t *testing.T) {
	for _, a := range points() {
		if !On(a) {
			t.Error(a)
		}
	}
}

// rightOf is X X X - 3 X + b, modulo p.
func rightOf(x *big.Int) *big.Int {
	right := new(big.Int).Mul(x, x)
	right.Sub(right, big.NewInt(3)).Mul(right, x).Add(right, added)
	return right.Mod(right, modulus)
}

func TestOnOfEachXHasTwoYsOrNone(t *testing.T) {
	next := chosen(1)
	xs := []api.Num{{}, numOf(new(big.Int).Sub(modulus, big.NewInt(1)))}
	for i := range uint64(40) {
		xs = append(xs, api.Num{i}, numOf(new(big.Int).Mod(bigOf(next()), modulus)))
	}
	for _, x := range xs {
		y := new(big.Int).ModSqrt(rightOf(bigOf(x)), modulus)
		some := y != nil
		if !some { // the root of the number's negative is none of the number
			y = new(big.Int).ModSqrt(new(big.Int).Sub(modulus, rightOf(bigOf(x))), modulus)
		}
		other := new(big.Int).Sub(modulus, y)
		if On(api.Point{X: x, Y: numOf(y)}) != some || On(api.Point{X: x, Y: numOf(other)}) != some {
			t.Error(x, y, some)
		}
	}
}

func TestOnOfPointsOffTheCurve(t *testing.T) {
	for _, a := range offCurve() {
		if On(a) {
			t.Error(a)
		}
	}
}

func TestOnOfAPointWithOneBitChanged(t *testing.T) {
	for i := range 256 {
		x, y := base, base
		x.X[i/64] ^= 1 << (i % 64)
		y.Y[i/64] ^= 1 << (i % 64)
		if On(x) || On(y) {
			t.Error(i)
		}
	}
}

func TestWhatIsOffTheCurveIsNoArgument(t *testing.T) {
	for _, a := range offCurve() {
		if got, err := Neg(a); got != (api.Point{}) || err != api.ErrArg {
			t.Error("Neg", a, got, err)
		}
		for _, k := range []api.Num{{}, {1}, {2}, N(), largest} {
			if got, err := Mul(k, a); got != (api.Point{}) || err != api.ErrArg {
				t.Error("Mul", k, a, got, err)
			}
		}
		for _, pair := range [][2]api.Point{{a, base}, {base, a}, {a, far}, {far, a}, {a, a}} {
			if got, err := Add(pair[0], pair[1]); got != (api.Point{}) || err != api.ErrArg {
				t.Error("Add", pair, got, err)
			}
		}
	}
}

func TestNegHasTheOtherY(t *testing.T) {
	for _, a := range points() {
		if got := mustNeg(t, a); got != otherNeg(a) {
			t.Error(a, got)
		}
		if mustNeg(t, mustNeg(t, a)) != a {
			t.Error("twice", a)
		}
	}
	if mustNeg(t, far) != far {
		t.Error("Far")
	}
}

func TestAPointAndItsNegativeAreFar(t *testing.T) {
	for _, a := range points() {
		if mustAdd(t, a, mustNeg(t, a)) != far || mustAdd(t, mustNeg(t, a), a) != far {
			t.Error(a)
		}
	}
}

func TestFarAndAnotherIsThatOne(t *testing.T) {
	for _, a := range points() {
		if mustAdd(t, far, a) != a || mustAdd(t, a, far) != a {
			t.Error(a)
		}
	}
	if mustAdd(t, far, far) != far {
		t.Error("with itself")
	}
}

func TestAPointWithItself(t *testing.T) {
	for _, a := range points() {
		if got := mustAdd(t, a, a); got != otherSum(a, a) || got != mustMul(t, api.Num{2}, a) {
			t.Error(a, got)
		}
	}
	if mustAdd(t, base, base) != known()[1].a {
		t.Error("the base")
	}
}

func TestAddIsTheSum(t *testing.T) {
	for _, a := range points() {
		for _, b := range points() {
			if got, want := mustAdd(t, a, b), otherSum(a, b); got != want {
				t.Error(a, b, got, want)
			}
		}
	}
}

func TestMulOfTheBaseIsAsKnown(t *testing.T) {
	for _, c := range known() {
		if got := mustMul(t, c.k, Base()); got != c.a {
			t.Error(c.k, got)
		}
	}
}

func TestMulIsWhatAnotherWayTells(t *testing.T) {
	next := chosen(2)
	for i, a := range points() {
		k := next()
		for word := range i % 4 { // shorter ones, too
			k[3-word] = 0
		}
		if got, want := mustMul(t, k, a), otherMultiple(k, a); got != want {
			t.Error(k, a, got, want)
		}
	}
}

func TestMulByEachPowerOfTwo(t *testing.T) {
	want := base
	for i := range 256 {
		var power, below api.Num
		power[i/64] = 1 << (i % 64)
		if got := mustMul(t, power, base); got != want {
			t.Error(i)
		}
		below = numOf(new(big.Int).Sub(bigOf(power), big.NewInt(1)))
		if got := mustMul(t, below, base); got != otherSum(want, otherNeg(base)) {
			t.Error("below", i)
		}
		want = otherSum(want, want)
	}
}

func TestMulIsSumsOneByOne(t *testing.T) {
	for _, a := range []api.Point{base, smallX()[0], smallY()[0], known()[9].a} {
		sum := far
		for k := range int64(40) {
			if got := mustMul(t, numOf(big.NewInt(k)), a); got != sum {
				t.Error(k, a, got)
			}
			// n of it are Far: so many more are as many.
			if got := mustMul(t, orderPlus(k), a); got != sum {
				t.Error("n and", k, a, got)
			}
			if got := mustMul(t, orderPlus(-k), a); got != mustNeg(t, sum) {
				t.Error("n less", k, a, got)
			}
			sum = mustAdd(t, sum, a)
		}
	}
}

func TestMulAtTheEdges(t *testing.T) {
	for _, a := range points() {
		for _, c := range []struct {
			k    api.Num
			want api.Point
		}{
			{api.Num{}, far}, {api.Num{1}, a}, {api.Num{2}, mustAdd(t, a, a)},
			{orderPlus(-1), mustNeg(t, a)}, {N(), far}, {orderPlus(1), a}, {orderPlus(2), mustAdd(t, a, a)},
		} {
			if got := mustMul(t, c.k, a); got != c.want {
				t.Error(c.k, a, got)
			}
		}
	}
}

func TestMulByNumbersAboveN(t *testing.T) {
	above := []api.Num{orderPlus(1 << 32), {0, 0, 0, full}, {0, full, full, full}, {full - 1, full, full, full}, largest, P(), modulusPlus(api.Num{1})}
	for _, k := range above {
		rest := numOf(new(big.Int).Mod(bigOf(k), order))
		for _, a := range []api.Point{base, smallX()[1], known()[7].a} {
			if got := mustMul(t, k, a); got != mustMul(t, rest, a) || got != otherMultiple(k, a) {
				t.Error(k, a, got)
			}
		}
	}
}

func TestMulOfFarIsFar(t *testing.T) {
	for _, k := range []api.Num{{}, {1}, {2}, {3}, {0, 1}, orderPlus(-1), N(), orderPlus(1), largest} {
		if got := mustMul(t, k, far); got != far {
			t.Error(k, got)
		}
	}
}

// P5.2

// baseBytes are 6b 17 d1 .. f5.
func baseBytes() []byte {
	b, err := hex.DecodeString("6b17d1f2e12c4247f8bce6e563a440f277037d812deb33a0f4a13945d898c296" +
		"4fe342e2fe1a7f9b8ee7eb4a7c0f9e162bce33576b315ececbb6406837bf51f5")
	if err != nil {
		panic(err)
	}
	return b
}

// otherBytes are X's and Y's 32 bytes, on the curve or not.
func otherBytes(a api.Point) []byte {
	b := make([]byte, 64)
	bigOf(a.X).FillBytes(b[:32])
	bigOf(a.Y).FillBytes(b[32:])
	return b
}

func TestBytesAreXsAndYs(t *testing.T) {
	for _, a := range points() {
		if a.Far {
			continue
		}
		if got, err := Bytes(a); err != nil || !bytes.Equal(got, otherBytes(a)) {
			t.Error(a, got, err)
		}
	}
	if got, err := Bytes(Base()); err != nil || !bytes.Equal(got, baseBytes()) {
		t.Error(got, err)
	}
}

func TestBytesOfFarAndOfWhatIsOffTheCurve(t *testing.T) {
	for _, a := range append(offCurve(), far) {
		if got, err := Bytes(a); got != nil || err != api.ErrArg {
			t.Error(a, got, err)
		}
	}
}

func TestParseReadsBytesAgain(t *testing.T) {
	if got, err := Parse(baseBytes()); err != nil || got != base {
		t.Error(got, err)
	}
	for _, a := range points() {
		if a.Far {
			continue
		}
		b, _ := Bytes(a)
		got, err := Parse(b)
		if err != nil || got != a {
			t.Error(a, got, err)
		}
	}
}

func refused(t *testing.T, b []byte) {
	t.Helper()
	if got, err := Parse(b); got != (api.Point{}) || err != api.ErrForm {
		t.Error(len(b), b, got, err)
	}
}

func TestParseOfEachLength(t *testing.T) {
	refused(t, nil)
	for n := range 130 {
		if n == 64 {
			continue
		}
		cut := append(baseBytes(), baseBytes()...)
		cut = append(cut, 0, 0)[:n]
		refused(t, cut)
		refused(t, make([]byte, n))
		refused(t, slices.Concat(baseBytes(), make([]byte, n+1)))
		refused(t, slices.Concat(make([]byte, n+1), baseBytes()))
	}
	refused(t, append([]byte{4}, baseBytes()...))
	refused(t, append([]byte{2}, baseBytes()[:32]...))
}

func TestParseOfBytesThatNoPointHas(t *testing.T) {
	for _, a := range offCurve() {
		if !a.Far {
			refused(t, otherBytes(a))
		}
	}
	refused(t, make([]byte, 64)) // Far has no bytes
	refused(t, bytes.Repeat([]byte{0xff}, 64))
	refused(t, slices.Concat(baseBytes()[32:], baseBytes()[:32]))
	for i := range 512 {
		b := baseBytes()
		b[i/8] ^= 1 << (i % 8)
		refused(t, b)
	}
}

// P5.3

func TestBytesThatAreReadStayAndAreNotKept(t *testing.T) {
	room := append(baseBytes(), 7, 7, 7)
	got, err := Parse(room[:64])
	if err != nil || !bytes.Equal(room, append(baseBytes(), 7, 7, 7)) {
		t.Error(room, err)
	}
	clear(room)
	if again, _ := Parse(baseBytes()); got != base || again != base {
		t.Error(got, again)
	}
	wrong := append(baseBytes()[:63], 0)
	Parse(wrong)
	if !bytes.Equal(wrong, append(baseBytes()[:63], 0)) {
		t.Error(wrong)
	}
}

func TestBytesThatWereToldAreTheCallers(t *testing.T) {
	first, _ := Bytes(base)
	second, _ := Bytes(base)
	clear(first)
	_ = append(first[:10], first...)
	if third, _ := Bytes(base); !bytes.Equal(second, baseBytes()) || !bytes.Equal(third, baseBytes()) {
		t.Error(second, third)
	}
}

func TestNumbersThatWereToldAreTheCallers(t *testing.T) {
	p, n, g := P(), N(), Base()
	clear(p[:])
	clear(n[:])
	clear(g.X[:])
	g.Far = true
	TestTheNumbersAreTheDocuments(t)
	if mustMul(t, api.Num{2}, Base()) != known()[1].a {
		t.Error("a multiple")
	}
}

func TestPointsThatAreHandedInStay(t *testing.T) {
	a, b, k := base, known()[3].a, largest
	mustAdd(t, a, b)
	mustAdd(t, a, a)
	mustNeg(t, a)
	mustMul(t, k, a)
	On(a)
	Bytes(a)
	if a != base || b != known()[3].a || k != largest {
		t.Error(a, b, k)
	}
}

// P5.4

// told is whether a point may be told: on the curve by the document's words.
func told(a api.Point) bool {
	if a.Far {
		return a == far
	}
	x, y := bigOf(a.X), bigOf(a.Y)
	if x.Cmp(modulus) >= 0 || y.Cmp(modulus) >= 0 {
		return false
	}
	square := new(big.Int).Mul(y, y)
	return square.Mod(square, modulus).Cmp(rightOf(x)) == 0
}

func TestSumsAreOnTheCurveAndTheSameInBothOrders(t *testing.T) {
	for _, a := range points() {
		for _, b := range points() {
			sum := mustAdd(t, a, b)
			if !told(sum) || !On(sum) || sum != mustAdd(t, b, a) {
				t.Error(a, b, sum)
			}
		}
	}
}

func TestSumsPutTogetherInBothWays(t *testing.T) {
	l := points()
	for i, a := range l {
		for j, b := range l {
			for _, c := range []api.Point{l[(i+j)%len(l)], l[(2*i+3*j+1)%len(l)], mustNeg(t, b)} {
				one := mustAdd(t, mustAdd(t, a, b), c)
				if other := mustAdd(t, a, mustAdd(t, b, c)); one != other {
					t.Error(a, b, c, one, other)
				}
			}
		}
	}
}

func TestMultiplesAreOnTheCurve(t *testing.T) {
	next := chosen(3)
	for _, a := range points() {
		for range 3 {
			if multiple := mustMul(t, next(), a); !told(multiple) || !On(multiple) {
				t.Error(a, multiple)
			}
		}
	}
}

func TestNTimesAnyPointIsFar(t *testing.T) {
	if mustMul(t, N(), Base()) != far {
		t.Error("the base")
	}
	for _, a := range points() {
		if mustMul(t, N(), a) != far {
			t.Error(a)
		}
	}
}

func TestMultiplesOfASumAreSumsOfMultiples(t *testing.T) {
	next := chosen(4)
	numbers := []api.Num{{}, {1}, {2}, {3}, {full}, {0, 1}, orderPlus(-1), N(), orderPlus(1)}
	for range 6 {
		numbers = append(numbers, next())
	}
	for _, a := range []api.Point{base, smallX()[0], smallY()[1]} {
		multiples := make([]api.Point, len(numbers))
		for i, k := range numbers {
			multiples[i] = mustMul(t, k, a)
			for j := range i + 1 {
				sum := new(big.Int).Add(bigOf(numbers[j]), bigOf(k))
				if sum.BitLen() > 256 {
					sum.Mod(sum, order)
				}
				if mustMul(t, numOf(sum), a) != mustAdd(t, multiples[j], multiples[i]) {
					t.Error(numbers[j], k, a)
				}
			}
		}
	}
}

func TestMultiplesOfSumsAndOfMultiples(t *testing.T) {
	next := chosen(6)
	for range 12 {
		j, k := next(), next()
		a, b := mustMul(t, j, base), mustMul(t, k, base)
		if mustMul(t, k, mustAdd(t, a, b)) != mustAdd(t, mustMul(t, k, a), mustMul(t, k, b)) {
			t.Error("of a sum", j, k)
		}
		if mustMul(t, k, a) != mustMul(t, j, b) {
			t.Error("of a multiple", j, k)
		}
	}
}

func BenchmarkMul(b *testing.B) {
	for b.Loop() {
		Mul(orderPlus(-2), base)
	}
}

func BenchmarkAdd(b *testing.B) {
	two := known()[1].a
	for b.Loop() {
		Add(base, two)
	}
}
