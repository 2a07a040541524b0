package limb

import (
	"bytes"
	"errors"
	"math"
	"math/big"
	"slices"
	"testing"

	"clapper/api"
)

const full = math.MaxUint64

var (
	largest = api.Num{full, full, full, full}
	modulus = new(big.Int).Lsh(big.NewInt(1), 256)
)

// ofWords reads words by another way than the package does, so that the tests
// don't lean on what they test.
func ofWords(l []uint64) *big.Int {
	x := new(big.Int)
	for _, w := range slices.Backward(l) {
		x.Lsh(x, 64)
		x.Add(x, new(big.Int).SetUint64(w))
	}
	return x
}

func bigOf(a api.Num) *big.Int { return ofWords(a[:]) }

// mixer makes numbers that look unlike each other, and are the same in each run.
type mixer uint64

func (m *mixer) word() uint64 {
	*m += 0x9e3779b97f4a7c15
	x := uint64(*m)
	x = (x ^ x>>30) * 0xbf58476d1ce4e5b9
	x = (x ^ x>>27) * 0x94d049bb133111eb
	return x ^ x>>31
}

// numbers are the edges, and some between.
func numbers() []api.Num {
	l := []api.Num{{}, largest, {full - 1, full, full, full}, {3}, {1, 0, 0, 1},
		{0xaaaaaaaaaaaaaaaa, 0x5555555555555555, 0xaaaaaaaaaaaaaaaa, 0x5555555555555555}}
	for i := range 256 {
		if i%64 > 1 && i%64 < 63 {
			continue
		}
		var power, below api.Num
		power[i/64] = 1 << (i % 64)
		for k := range i / 64 {
			below[k] = full
		}
		below[i/64] = power[i/64] - 1
		l = append(l, power, below)
	}
	m := mixer(1)
	for range 24 {
		l = append(l, api.Num{m.word(), m.word(), m.word(), m.word()})
	}
	return append(l, api.Num{m.word()}, api.Num{0, m.word()}, api.Num{0, 0, m.word()}, api.Num{0, 0, 0, m.word()})
}

func eachPair(f func(a, b api.Num)) {
	l := numbers()
	for _, a := range l {
		for _, b := range l {
			f(a, b)
		}
	}
}

// P1.1

func TestAddIsTheSumModulo(t *testing.T) {
	eachPair(func(a, b api.Num) {
		want := new(big.Int).Add(bigOf(a), bigOf(b))
		wantOver := want.Cmp(modulus) >= 0
		want.Mod(want, modulus)
		if got, over := Add(a, b); bigOf(got).Cmp(want) != 0 || over != wantOver {
			t.Errorf("Add(%x, %x): %x, %v", a, b, got, over)
		}
	})
}

func TestAddAtTwoTo256(t *testing.T) {
	tests := []struct {
		a, b, sum api.Num
		over      bool
	}{
		{api.Num{}, api.Num{}, api.Num{}, false},
		{largest, api.Num{}, largest, false},
		{api.Num{full - 1, full, full, full}, api.Num{1}, largest, false},
		{largest, api.Num{1}, api.Num{}, true},
		{api.Num{1}, largest, api.Num{}, true},
		{largest, largest, api.Num{full - 1, full, full, full}, true},
		{api.Num{0, 0, 0, 1 << 63}, api.Num{0, 0, 0, 1 << 63}, api.Num{}, true},
		{api.Num{full}, api.Num{1}, api.Num{0, 1}, false},
		{api.Num{full, full, full}, api.Num{1}, api.Num{0, 0, 0, 1}, false},
	}
	for _, x := range tests {
		if sum, over := Add(x.a, x.b); sum != x.sum || over != x.over {
			t.Errorf("Add(%x, %x): %x, %v", x.a, x.b, sum, over)
		}
	}
}

func TestSubIsTheDifferenceModulo(t *testing.T) {
	eachPair(func(a, b api.Num) {
		want := new(big.Int).Sub(bigOf(a), bigOf(b))
		wantUnder := want.Sign() < 0
		want.Mod(want, modulus)
		if got, under := Sub(a, b); bigOf(got).Cmp(want) != 0 || under != wantUnder {
			t.Errorf("Sub(%x, %x): %x, %v", a, b, got, under)
		}
	})
}

func TestSubBelowZero(t *testing.T) {
	tests := []struct {
		a, b, difference api.Num
		under            bool
	}{
		{api.Num{}, api.Num{}, api.Num{}, false},
		{api.Num{}, api.Num{1}, largest, true},
		{api.Num{}, largest, api.Num{1}, true},
		{largest, largest, api.Num{}, false},
		{largest, api.Num{}, largest, false},
		{api.Num{0, 0, 0, 1}, api.Num{1}, api.Num{full, full, full}, false},
		{api.Num{full}, api.Num{0, 1}, largest, true},
	}
	for _, x := range tests {
		if difference, under := Sub(x.a, x.b); difference != x.difference || under != x.under {
			t.Errorf("Sub(%x, %x): %x, %v", x.a, x.b, difference, under)
		}
	}
}

func TestMulIsTheProduct(t *testing.T) {
	eachPair(func(a, b api.Num) {
		want := new(big.Int).Mul(bigOf(a), bigOf(b))
		if got := Mul(a, b); ofWords(got[:]).Cmp(want) != 0 {
			t.Errorf("Mul(%x, %x): %x", a, b, got)
		}
	})
}

func TestMulAtTheEdges(t *testing.T) {
	tests := []struct {
		a, b    api.Num
		product api.Wide
	}{
		{api.Num{}, largest, api.Wide{}},
		{api.Num{1}, largest, api.Wide{full, full, full, full}},
		{largest, largest, api.Wide{1, 0, 0, 0, full - 1, full, full, full}},
		{api.Num{0, 0, 0, 1 << 63}, api.Num{2}, api.Wide{0, 0, 0, 0, 1}},
	}
	for _, x := range tests {
		if product := Mul(x.a, x.b); product != x.product {
			t.Errorf("Mul(%x, %x): %x", x.a, x.b, product)
		}
	}
}

func TestCmpIsTheOrder(t *testing.T) {
	eachPair(func(a, b api.Num) {
		if got := Cmp(a, b); got != bigOf(a).Cmp(bigOf(b)) {
			t.Errorf("Cmp(%x, %x): %d", a, b, got)
		}
	})
}

func TestCmpOfUnlikeWords(t *testing.T) {
	low, high := api.Num{full, full, full}, api.Num{0, 0, 0, 1}
	if Cmp(low, high) != -1 || Cmp(high, low) != 1 {
		t.Error("the highest words don't come first")
	}
	if Cmp(api.Num{}, largest) != -1 || Cmp(largest, api.Num{}) != 1 || Cmp(largest, largest) != 0 || Cmp(api.Num{}, api.Num{}) != 0 {
		t.Error("0 and 2^256 - 1")
	}
}

// P1.2

func TestHalfIsCutOff(t *testing.T) {
	for _, a := range numbers() {
		want := new(big.Int).Rsh(bigOf(a), 1)
		if got := Half(a); bigOf(got).Cmp(want) != 0 {
			t.Errorf("Half(%x): %x", a, got)
		}
	}
	if Half(api.Num{}) != (api.Num{}) || Half(api.Num{1}) != (api.Num{}) || Half(api.Num{3}) != (api.Num{1}) {
		t.Error("small numbers")
	}
	if Half(largest) != (api.Num{full, full, full, full >> 1}) {
		t.Error("2^256 - 1")
	}
}

func TestBitIsTheNumbersBit(t *testing.T) {
	for _, a := range numbers() {
		x := bigOf(a)
		for i := range 256 {
			if Bit(a, i) != (x.Bit(i) == 1) {
				t.Errorf("Bit(%x, %d)", a, i)
			}
		}
	}
}

func TestBitOutsideIsFalse(t *testing.T) {
	for _, i := range []int{math.MinInt, -256, -64, -1, 256, 257, 319, 512, math.MaxInt} {
		if Bit(largest, i) {
			t.Errorf("bit %d", i)
		}
	}
	if !Bit(largest, 0) || !Bit(largest, 255) {
		t.Error("the first and the last bit")
	}
}

func TestLenIsTheLeast(t *testing.T) {
	for _, a := range numbers() {
		if got := Len(a); got != bigOf(a).BitLen() {
			t.Errorf("Len(%x): %d", a, got)
		}
	}
	if Len(api.Num{}) != 0 || Len(api.Num{1}) != 1 || Len(largest) != 256 {
		t.Error("0, 1 and 2^256 - 1")
	}
}

// P1.3

func TestBytesAreTheHighestFirst(t *testing.T) {
	for _, a := range numbers() {
		want := bigOf(a).FillBytes(make([]byte, 32))
		if got := Bytes(a); !bytes.Equal(got, want) {
			t.Errorf("Bytes(%x): %x", a, got)
		}
	}
	if !bytes.Equal(Bytes(api.Num{}), make([]byte, 32)) || !bytes.Equal(Bytes(largest), bytes.Repeat([]byte{255}, 32)) {
		t.Error("0 and 2^256 - 1")
	}
}

func TestOfEachLength(t *testing.T) {
	m := mixer(2)
	for length := range 33 {
		b := make([]byte, length)
		for i := range b {
			b[i] = byte(m.word())
		}
		a, err := Of(b)
		if err != nil || bigOf(a).Cmp(new(big.Int).SetBytes(b)) != 0 {
			t.Errorf("Of(%x): %x, %v", b, a, err)
		}
	}
}

func TestOfTheEdges(t *testing.T) {
	tests := []struct {
		b []byte
		a api.Num
	}{
		{nil, api.Num{}},
		{[]byte{}, api.Num{}},
		{[]byte{0}, api.Num{}},
		{[]byte{1, 0}, api.Num{256}},
		{make([]byte, 32), api.Num{}},
		{bytes.Repeat([]byte{255}, 32), largest},
		{append([]byte{1}, make([]byte, 31)...), api.Num{0, 0, 0, 1 << 56}},
	}
	for _, x := range tests {
		if a, err := Of(x.b); err != nil || a != x.a {
			t.Errorf("Of(%x): %x, %v", x.b, a, err)
		}
	}
}

func TestOfTooManyBytes(t *testing.T) {
	for _, length := range []int{33, 34, 64, 1000} {
		ones := bytes.Repeat([]byte{1}, length)
		for _, b := range [][]byte{ones, make([]byte, length)} {
			a, err := Of(b)
			if a != (api.Num{}) || err != error(api.ErrArg) || !errors.Is(err, api.ErrArg) {
				t.Errorf("of %d bytes: %x, %v", length, a, err)
			}
		}
	}
}

// P1.4

func TestWhatIsHandedInStays(t *testing.T) {
	for _, length := range []int{0, 1, 31, 32, 33} {
		room := bytes.Repeat([]byte{0, 0, 7, 255, 0}, 10)
		was := slices.Clone(room)
		a, _ := Of(room[:length])
		if !bytes.Equal(room, was) {
			t.Errorf("%d bytes were changed", length)
		}
		kept := a
		clear(room)
		if again, _ := Of(was[:length]); a != kept || again != a {
			t.Errorf("of %d bytes: the number changed with them", length)
		}
	}
	eachPair(func(a, b api.Num) {
		wasA, wasB := a, b
		Add(a, b)
		Sub(a, b)
		Mul(a, b)
		Cmp(a, b)
		if a != wasA || b != wasB {
			t.Errorf("%x, %x were changed", wasA, wasB)
		}
	})
}

func TestBytesAreNewMemory(t *testing.T) {
	a := api.Num{1, 2, 3, 4}
	first, second := Bytes(a), Bytes(a)
	for i := range first {
		first[i] = 255
	}
	if !bytes.Equal(second, bigOf(a).FillBytes(make([]byte, 32))) {
		t.Error("two answers share memory")
	}
}

// P1.5

func TestWhatWasAddedIsTakenAway(t *testing.T) {
	eachPair(func(a, b api.Num) {
		sum, over := Add(a, b)
		back, under := Sub(sum, b)
		if back != a || under != over {
			t.Errorf("%x and %x: %x, %v, %v", a, b, back, over, under)
		}
	})
}

func TestOfBytesIsTheNumber(t *testing.T) {
	for _, a := range numbers() {
		if back, err := Of(Bytes(a)); err != nil || back != a {
			t.Errorf("%x: %x, %v", a, back, err)
		}
	}
}

func TestTwiceTheHalfAndTheLowestBit(t *testing.T) {
	for _, a := range numbers() {
		half := Half(a)
		twice, over := Add(half, half)
		var lowest api.Num
		if Bit(a, 0) {
			lowest[0] = 1
		}
		back, overToo := Add(twice, lowest)
		if back != a || over || overToo {
			t.Errorf("%x: half %x, back %x", a, half, back)
		}
	}
}
