package field

import (
	"errors"
	"math"
	"math/big"
	"math/rand/v2"
	"slices"
	"testing"

	"clapper/api"
)

const full = math.MaxUint64

var (
	largest   = api.Num{full, full, full, full}
	p256      = api.Num{full, 0xffffffff, 0, 0xffffffff00000001}
	order     = api.Num{0xf3b9cac2fc632551, 0xbce6faada7179e84, full, 0xffffffff00000000}
	composite = api.Num{0, 0, 0, 1 << 63} // made odd, and of small divisors, below
)

// bigOf reads words by another way than the package does, so that the tests
// don't lean on what they test.
func bigOf(l []uint64) *big.Int {
	x := new(big.Int)
	for _, w := range slices.Backward(l) {
		x.Lsh(x, 64)
		x.Add(x, new(big.Int).SetUint64(w))
	}
	return x
}

func numOf(x *big.Int) api.Num {
	var a api.Num
	rest, word := new(big.Int).Set(x), new(big.Int).SetUint64(full)
	for i := range a {
		a[i] = new(big.Int).And(rest, word).Uint64()
		rest.Rsh(rest, 64)
	}
	return a
}

// chosen makes numbers that look unlike each other, and are the same in each run.
func chosen(seed uint64) func() api.Num {
	r := rand.New(rand.NewPCG(seed, 0))
	return func() api.Num { return api.Num{r.Uint64(), r.Uint64(), r.Uint64(), r.Uint64()} }
}

// moduli are small ones, ones about each word's end, primes and others, and
// ones near 2^256.
func moduli() []api.Num {
	l := []api.Num{{3}, {5}, {7}, {9}, {15}, {105}, {full}, {full - 2}, {1, 1}, {full, full},
		{1, 0, 1}, {full, full, full}, {1, 0, 0, 1}, {full, full, full, 1<<63 - 1},
		{1, 0, 0, 1 << 63}, p256, order, largest, {full - 188, full, full, full},
		{full - 2, full, full, full}, oddComposite()}
	next := chosen(2)
	for i := range 8 {
		a := next()
		for k := i%4 + 1; k < 4; k++ {
			a[k] = 0
		}
		a[0] |= 3
		l = append(l, a)
	}
	return l
}

// oddComposite has the divisors 3, 5, 7 and 2^64 + 1, and 230 bits or more.
func oddComposite() api.Num {
	x := bigOf(composite[:])
	step := new(big.Int).Mul(big.NewInt(105), bigOf([]uint64{1, 1}))
	x.Sub(x, new(big.Int).Mod(x, step))
	if x.Bit(0) == 0 {
		x.Sub(x, step)
	}
	return numOf(x)
}

// numbers are the edges of numbers and of the modulus, and some between.
func numbers(modulus api.Num) []api.Num {
	m := bigOf(modulus[:])
	l := []api.Num{{}, {1}, {2}, {3}, {5}, {7}, {1, 1}, {full}, {0, 1}, {0, 0, 0, 1 << 63}, largest, {full - 1, full, full, full}}
	for _, d := range []int64{-2, -1, 0, 1, 2} {
		for _, times := range []int64{1, 2} {
			x := new(big.Int).Mul(m, big.NewInt(times))
			x.Add(x, big.NewInt(d))
			if x.BitLen() <= 256 {
				l = append(l, numOf(x))
			}
		}
	}
	half := new(big.Int).Rsh(m, 1)
	topmost := new(big.Int).Sub(bigOf(largest[:]), new(big.Int).Mod(bigOf(largest[:]), m))
	l = append(l, numOf(half), numOf(new(big.Int).Add(half, big.NewInt(1))), numOf(topmost))
	next := chosen(3)
	for range 4 {
		a := next()
		l = append(l, a, numOf(new(big.Int).Mod(bigOf(a[:]), m)))
	}
	return l
}

func wides(modulus api.Num) []api.Wide {
	m := modulus
	l := []api.Wide{{}, {1}, {0, 0, 0, 0, 1}, {full, full, full, full}, {full, full, full, full, full, full, full, full},
		{0, 0, 0, 0, 0, 0, 0, 1 << 63}, {full - 1, full, full, full, full, full, full, full},
		{m[0], m[1], m[2], m[3]}, {m[0] - 1, m[1], m[2], m[3]},
		{0, 0, 0, 0, m[0], m[1], m[2], m[3]}, {full, full, full, full, m[0] - 1, m[1], m[2], m[3]},
		{1, 0, 0, 0, m[0], m[1], m[2], m[3]}, {0, 0, 0, 0, full, full, full, full}}
	next := chosen(4)
	for range 8 {
		a, b := next(), next()
		l = append(l, api.Wide{a[0], a[1], a[2], a[3], b[0], b[1], b[2], b[3]})
	}
	return l
}

func made(t *testing.T, m api.Num) *Field {
	t.Helper()
	f, err := New(m)
	if err != nil || f == nil {
		t.Fatal("New", m, f, err)
	}
	return f
}

// eachField gives every modulus as the field, and as it is to math/big.
func eachField(t *testing.T, check func(f *Field, modulus api.Num, m *big.Int)) {
	for _, modulus := range moduli() {
		check(made(t, modulus), modulus, bigOf(modulus[:]))
	}
}

// eachPair gives every two of a field's numbers, m and above among them.
func eachPair(t *testing.T, check func(f *Field, m *big.Int, a, b api.Num)) {
	eachField(t, func(f *Field, modulus api.Num, m *big.Int) {
		l := numbers(modulus)
		for _, a := range l {
			for _, b := range l {
				check(f, m, a, b)
			}
		}
	})
}

// P2.1

func TestNewTakesNoModulusThatIsEvenOrBelow3(t *testing.T) {
	for _, m := range []api.Num{{}, {1}, {2}, {4}, {8}, {full - 1}, {0, 1}, {0, 0, 0, 1}, {0, 0, 0, 1 << 63},
		{full - 1, full, full, full}, {2, 1}, {4, 1, 1, 1}} {
		if f, err := New(m); f != nil || err != api.ErrArg {
			t.Error(m, f, err)
		}
	}
}

func TestNewTakesAnyOtherAndModTellsIt(t *testing.T) {
	eachField(t, func(f *Field, modulus api.Num, _ *big.Int) {
		if f.Mod() != modulus {
			t.Error(modulus, f.Mod())
		}
	})
}

func TestCutIsModulo(t *testing.T) {
	eachField(t, func(f *Field, modulus api.Num, m *big.Int) {
		for _, x := range wides(modulus) {
			if got, want := f.Cut(x), numOf(new(big.Int).Mod(bigOf(x[:]), m)); got != want {
				t.Error(modulus, x, got, want)
			}
		}
	})
}

func TestCutOfTheGreatestWideNumber(t *testing.T) {
	greatest := api.Wide{full, full, full, full, full, full, full, full}
	for _, c := range []struct{ modulus, want api.Num }{
		{api.Num{3}, api.Num{}}, {api.Num{7}, api.Num{3}}, {largest, api.Num{}},
		{api.Num{full - 2, full, full, full}, api.Num{8}}, // 3^2 - 1
	} {
		if got := made(t, c.modulus).Cut(greatest); got != c.want {
			t.Error(c.modulus, got)
		}
	}
}

// P2.2

func TestAddSubMulAreTheSumTheDifferenceTheProduct(t *testing.T) {
	eachPair(t, func(f *Field, m *big.Int, a, b api.Num) {
		x, y := bigOf(a[:]), bigOf(b[:])
		told := func(z *big.Int) api.Num { return numOf(z.Mod(z, m)) }
		if got, want := f.Add(a, b), told(new(big.Int).Add(x, y)); got != want {
			t.Error("Add", m, a, b, got, want)
		}
		if got, want := f.Sub(a, b), told(new(big.Int).Sub(x, y)); got != want {
			t.Error("Sub", m, a, b, got, want)
		}
		if got, want := f.Mul(a, b), told(new(big.Int).Mul(x, y)); got != want {
			t.Error("Mul", m, a, b, got, want)
		}
	})
}

func TestPowIsThePower(t *testing.T) {
	eachField(t, func(f *Field, modulus api.Num, m *big.Int) {
		l := numbers(modulus)
		for i, a := range l {
			for _, e := range []api.Num{{}, {1}, {2}, {3}, {10}, {full}, {0, 1}, modulus, largest, l[len(l)-1-i]} {
				want := numOf(new(big.Int).Exp(bigOf(a[:]), bigOf(e[:]), m))
				if got := f.Pow(a, e); got != want {
					t.Error(modulus, a, e, got, want)
				}
			}
		}
	})
}

func TestPowToZeroIsOne(t *testing.T) {
	eachField(t, func(f *Field, modulus api.Num, _ *big.Int) {
		for _, a := range []api.Num{{}, {1}, {2}, modulus, largest} {
			if got := f.Pow(a, api.Num{}); got != (api.Num{1}) {
				t.Error(modulus, a, got)
			}
		}
	})
}

func TestPowOfZeroIsZero(t *testing.T) {
	eachField(t, func(f *Field, modulus api.Num, _ *big.Int) {
		for _, e := range []api.Num{{1}, {2}, modulus, largest} {
			if f.Pow(api.Num{}, e) != (api.Num{}) || f.Pow(modulus, e) != (api.Num{}) {
				t.Error(modulus, e)
			}
		}
	})
}

func TestInvIsTheInverseOrThereIsNone(t *testing.T) {
	eachField(t, func(f *Field, modulus api.Num, m *big.Int) {
		for _, a := range numbers(modulus) {
			got, err := f.Inv(a)
			want := new(big.Int).ModInverse(bigOf(a[:]), m)
			if want == nil && (got != (api.Num{}) || err != api.ErrNone) {
				t.Error(modulus, a, got, err)
			}
			if want != nil && (got != numOf(want) || err != nil) {
				t.Error(modulus, a, got, err, want)
			}
		}
	})
}

func TestInvOfAllOfASmallField(t *testing.T) {
	for _, modulus := range []uint64{3, 5, 7, 9, 15, 45, 105} {
		f := made(t, api.Num{modulus})
		for a := range 2 * modulus {
			var want uint64
			for b := range modulus {
				if a*b%modulus == 1 {
					want = b
				}
			}
			got, err := f.Inv(api.Num{a})
			if got != (api.Num{want}) || (err == nil) != (want != 0) {
				t.Error(modulus, a, got, err)
			}
		}
	}
}

func TestInvOfTheExample(t *testing.T) {
	if got, err := made(t, api.Num{7}).Inv(api.Num{3}); got != (api.Num{5}) || err != nil {
		t.Error(got, err)
	}
}

func TestInvOfZeroAndOfACommonDivisor(t *testing.T) {
	f := made(t, oddComposite())
	for _, a := range []api.Num{{}, f.Mod(), {3}, {5}, {7}, {35}, {1, 1}, {246}, f.Mul(api.Num{1, 1}, largest)} {
		if got, err := f.Inv(a); got != (api.Num{}) || !errors.Is(err, api.ErrNone) {
			t.Error(a, got, err)
		}
	}
}

// P2.3

func TestWhatIsHandedInStaysAsItIs(t *testing.T) {
	modulus, a, b := p256, largest, order
	x := api.Wide{full, 1, 2, 3, 4, 5, 6, full}
	f := made(t, modulus)
	f.Cut(x)
	f.Add(a, b)
	f.Sub(a, b)
	f.Mul(a, b)
	f.Pow(a, b)
	if _, err := f.Inv(a); err != nil {
		t.Error(err)
	}
	if modulus != p256 || a != largest || b != order || x != (api.Wide{full, 1, 2, 3, 4, 5, 6, full}) {
		t.Error(modulus, a, b, x)
	}
	if f.Mod() != p256 {
		t.Error("the field has changed", f.Mod())
	}
}

func TestFieldsDontKnowOfEachOther(t *testing.T) {
	seven, fifteen := made(t, api.Num{7}), made(t, api.Num{15})
	modulus := seven.Mod()
	modulus[0] = 9
	if seven.Mod() != (api.Num{7}) || fifteen.Mod() != (api.Num{15}) {
		t.Error(seven.Mod(), fifteen.Mod())
	}
	if seven.Mul(api.Num{5}, api.Num{4}) != (api.Num{6}) || fifteen.Mul(api.Num{5}, api.Num{4}) != (api.Num{5}) {
		t.Error("products")
	}
}

// P2.4

func TestProductsAreTheSameInBothOrdersAndHoweverPutTogether(t *testing.T) {
	eachPair(t, func(f *Field, m *big.Int, a, b api.Num) {
		c := f.Sub(api.Num{12345, 6, 7, 8}, b)
		if f.Mul(a, b) != f.Mul(b, a) {
			t.Error("orders", m, a, b)
		}
		if f.Mul(f.Mul(a, b), c) != f.Mul(a, f.Mul(b, c)) {
			t.Error("together", m, a, b, c)
		}
	})
}

func TestAProductWithASumIsTheSumOfProducts(t *testing.T) {
	eachPair(t, func(f *Field, m *big.Int, a, b api.Num) {
		c := f.Add(api.Num{54321, 6, 7, 8}, b)
		if f.Mul(a, f.Add(b, c)) != f.Add(f.Mul(a, b), f.Mul(a, c)) {
			t.Error(m, a, b, c)
		}
	})
}

func TestPowersOfSumsAreProductsOfPowers(t *testing.T) {
	for _, modulus := range []api.Num{{3}, {15}, p256, largest} {
		f := made(t, modulus)
		for _, a := range numbers(modulus) {
			for _, d := range []api.Num{{}, {1}, {6, 7}} {
				for _, e := range []api.Num{{}, {1}, {full, 2, 1}} {
					sum := api.Num{d[0] + e[0], d[1] + e[1], d[2] + e[2]}
					if d[0]+e[0] < d[0] {
						sum[1]++
					}
					if f.Pow(a, sum) != f.Mul(f.Pow(a, d), f.Pow(a, e)) {
						t.Error(modulus, a, d, e)
					}
				}
			}
		}
	}
}

func TestWhatHasAnInverseIsItsInversesInverse(t *testing.T) {
	eachField(t, func(f *Field, modulus api.Num, m *big.Int) {
		for _, a := range numbers(modulus) {
			inverse, err := f.Inv(a)
			if err != nil {
				continue
			}
			if f.Mul(inverse, a) != (api.Num{1}) {
				t.Error("product", modulus, a, inverse)
			}
			want := numOf(new(big.Int).Mod(bigOf(a[:]), m))
			if back, err := f.Inv(inverse); back != want || err != nil {
				t.Error(modulus, a, back, err)
			}
		}
	})
}

// P1 of the document: each call ends, of the numbers that take the longest too.

func TestEachCallEndsAtTheLongest(t *testing.T) {
	f := made(t, largest)
	next := chosen(5)
	for range 500 {
		a := next()
		if _, err := f.Inv(a); err != nil && err != api.ErrNone {
			t.Error(a, err)
		}
	}
	f.Pow(largest, largest)
}

func BenchmarkMul(b *testing.B) {
	f, _ := New(p256)
	a := order
	for b.Loop() {
		a = f.Mul(a, order)
	}
}

func BenchmarkInv(b *testing.B) {
	f, _ := New(p256)
	for b.Loop() {
		f.Inv(order)
	}
}

func BenchmarkNew(b *testing.B) {
	for b.Loop() {
		New(p256)
	}
}
