package flash

import (
	"bytes"
	"math"
	"math/rand/v2"
	"slices"
	"strconv"
	"testing"

	"clapper/api"
)

const maxFlash = 1048576

// model goes by the chapter's words, place by place.
type model []byte

// there tells whether so many places are there from one on.
func (m model) there(at, many int) bool {
	if many < 0 || at < 0 || at > len(m) {
		return false
	}
	for ; many > 0; many-- {
		if at == len(m) {
			return false
		}
		at++
	}
	return true
}

// tear tells whether it may be, and does it then.
func (m model) tear(at int, b []byte, n int) bool {
	if !m.there(at, len(b)) || n < 0 || n > len(b) {
		return false
	}
	for i := range n {
		m[at+i] = b[i]
	}
	return true
}

func (m model) write(at int, b []byte) bool { return m.tear(at, b, len(b)) }

func (m model) read(at, n int) ([]byte, bool) {
	if !m.there(at, n) {
		return nil, false
	}
	var b []byte
	for i := range n {
		b = append(b, m[at+i])
	}
	return b, true
}

// made are n bytes that look unlike each other and what is beside them, none
// of them 0, the same in each run.
func made(seed uint64, n int) []byte {
	r := rand.New(rand.NewPCG(15, seed))
	b := make([]byte, n)
	for i := range b {
		b[i] = byte(1 + r.IntN(255))
	}
	return b
}

// roomy are the same bytes, with others behind them in their memory.
func roomy(b []byte) []byte {
	return append(slices.Clone(b), bytes.Repeat([]byte{0xee}, len(b)+9)...)[:len(b)]
}

// of is a flash of bytes that may be.
func of(t *testing.T, b []byte) *Flash {
	t.Helper()
	f, err := Of(b)
	if err != nil || f == nil {
		t.Fatal(len(b), err)
	}
	return f
}

// blank is a flash of a size that may be.
func blank(t *testing.T, size int) *Flash {
	t.Helper()
	f, err := New(size)
	if err != nil || f == nil {
		t.Fatal(size, err)
	}
	return f
}

// hasJust holds that a flash has these bytes, and no others.
func (f *Flash) hasJust(t *testing.T, name any, b []byte) {
	t.Helper()
	if f.Size() != len(b) || !bytes.Equal(f.Bytes(), b) {
		t.Error(name, "other bytes", f.Size(), len(b), len(f.Bytes()))
	}
	if told, err := f.Read(0, len(b)); err != nil || !bytes.Equal(told, b) {
		t.Error(name, "other bytes are read", err)
	}
}

func isArg(err error) bool { return err == error(api.ErrArg) }

// refusesRead holds that nothing is read, and nothing told beside the error.
func (f *Flash) refusesRead(t *testing.T, name any, at, n int) {
	t.Helper()
	if b, err := f.Read(at, n); !isArg(err) || len(b) != 0 {
		t.Error(name, at, n, len(b), err)
	}
}

// refusesTear holds that nothing is written, however much is to be.
func (f *Flash) refusesTear(t *testing.T, name any, at int, b []byte, many ...int) {
	t.Helper()
	ahead := f.Bytes()
	for _, n := range many {
		if err := f.Tear(at, b, n); !isArg(err) {
			t.Error(name, at, len(b), n, err)
		}
	}
	f.hasJust(t, name, ahead)
}

// refusesWrite holds that nothing is written, whole or cut off.
func (f *Flash) refusesWrite(t *testing.T, name any, at int, b []byte) {
	t.Helper()
	ahead := f.Bytes()
	if err := f.Write(at, b); !isArg(err) {
		t.Error(name, at, len(b), err)
	}
	f.hasJust(t, name, ahead)
	f.refusesTear(t, name, at, b, 0, 1, len(b)/2, len(b)-1, len(b))
}

// writes holds that it comes to what the model says.
func (f *Flash) writes(t *testing.T, name any, at int, b []byte) {
	t.Helper()
	f.tears(t, name, at, b, len(b))
	m := model(f.Bytes())
	m.write(at, b)
	if err := f.Write(at, b); err != nil {
		t.Error(name, at, len(b), err)
	}
	f.hasJust(t, name, m)
}

func (f *Flash) tears(t *testing.T, name any, at int, b []byte, n int) {
	t.Helper()
	m := model(f.Bytes())
	if !m.tear(at, b, n) {
		t.Fatal(name, "may not be")
	}
	if err := f.Tear(at, b, n); err != nil {
		t.Error(name, at, len(b), n, err)
	}
	f.hasJust(t, name, m)
}

// farInts are no places of any flash, and no counts of any bytes.
func farInts() []int {
	l := []int{
		math.MinInt, math.MinInt + 1, -maxFlash - 1, -maxFlash, -7, -2, -1,
		maxFlash + 1, 1<<32 - 1, 1 << 32, 1<<32 + 1, math.MaxInt - maxFlash, math.MaxInt - 1, math.MaxInt,
	}
	for bit := 21; bit < 63; bit++ {
		l = append(l, 1<<bit, -1<<bit)
	}
	return l
}

// sizes are those at which most is tried.
func sizes() []int { return []int{1, 2, 3, 7, 8, 64, 1000, maxFlash - 1, maxFlash} }

// TestTheExample is of the chapter's table.
func TestTheExample(t *testing.T) {
	f := blank(t, 3)
	if err := f.Write(1, []byte{7}); err != nil {
		t.Error(err)
	}
	f.hasJust(t, "example", []byte{0, 7, 0})
}

// P15.1

func TestSizesThatMayNotBe(t *testing.T) {
	for _, size := range append(farInts(), 0, -1, 1048577, 2097152) {
		if f, err := New(size); f != nil || !isArg(err) {
			t.Error(size, f != nil, err)
		}
	}
}

func TestAtFirstAllBytesAre0(t *testing.T) {
	for _, size := range append(sizes(), 1, 1048576, 65535, 65536, 65537) {
		f := blank(t, size)
		if f.Size() != size || len(f.Bytes()) != size {
			t.Error(size, f.Size(), len(f.Bytes()))
		}
		f.hasJust(t, size, bytes.Repeat([]byte{0}, size))
	}
}

func TestEachSizeUpToAThousand(t *testing.T) {
	for size := 1; size <= 1000; size++ {
		blank(t, size).hasJust(t, size, bytes.Repeat([]byte{0}, size))
		of(t, made(1, size)).hasJust(t, size, made(1, size))
	}
}

func TestBytesThatMayNotBeAFlash(t *testing.T) {
	for name, b := range map[string][]byte{
		"nil":           nil,
		"none":          {},
		"none of many":  made(1, 9)[:0],
		"one too many":  make([]byte, 1048577),
		"twice as many": make([]byte, 2097152),
		"many of more":  make([]byte, 3000000)[:1048577],
	} {
		if f, err := Of(b); f != nil || !isArg(err) {
			t.Error(name, f != nil, err)
		}
	}
}

func TestAFlashOfBytesHasThem(t *testing.T) {
	for _, size := range sizes() {
		of(t, made(2, size)).hasJust(t, size, made(2, size))
		of(t, roomy(made(3, size))).hasJust(t, size, made(3, size))
		of(t, make([]byte, size)).hasJust(t, size, make([]byte, size))
		of(t, bytes.Repeat([]byte{0xff}, size)).hasJust(t, size, bytes.Repeat([]byte{0xff}, size))
	}
}

func TestEachByteMayBe(t *testing.T) {
	for one := range 256 {
		of(t, []byte{byte(one)}).hasJust(t, one, []byte{byte(one)})
		f := of(t, []byte{1, byte(one + 1), 2})
		f.writes(t, one, 1, []byte{byte(one)})
		f.hasJust(t, one, []byte{1, byte(one), 2})
	}
}

func TestTheSizeStays(t *testing.T) {
	for _, size := range sizes() {
		f := blank(t, size)
		f.Write(0, made(1, size))
		f.Write(size, nil)
		f.Write(size-1, made(1, 2))
		f.Tear(size-1, []byte{1}, 0)
		f.Read(0, size)
		if f.Size() != size || len(f.Bytes()) != size {
			t.Error(size, f.Size())
		}
	}
}

// P15.2: Write

func TestWritesAtPlacesThatAreNone(t *testing.T) {
	for _, size := range sizes() {
		f := of(t, made(4, size))
		for _, at := range append(farInts(), -size-1, -size, size+1, size+2, 2*size+1) {
			if at >= 0 && at <= size {
				continue
			}
			f.refusesWrite(t, size, at, nil)
			f.refusesWrite(t, size, at, []byte{})
			f.refusesWrite(t, size, at, []byte{0})
		}
		f.refusesWrite(t, size, -1, made(5, size))
		f.refusesWrite(t, size, math.MinInt, made(5, size))
		f.refusesWrite(t, size, math.MaxInt, made(5, size))
		f.refusesWrite(t, size, math.MaxInt-size, made(5, size))
	}
}

func TestWritesOfNoBytes(t *testing.T) {
	for _, size := range sizes() {
		f := of(t, made(4, size))
		for _, at := range []int{0, 1, size / 2, size - 1, size} {
			f.writes(t, size, at, nil)
			f.writes(t, size, at, []byte{})
			f.writes(t, size, at, made(1, 9)[:0])
		}
		f.hasJust(t, size, made(4, size))
	}
}

func TestWritesThatJustFit(t *testing.T) {
	for _, size := range sizes() {
		for _, at := range []int{0, 1, size / 2, size - 1, size} {
			b := made(5, size-at)
			f := of(t, made(4, size))
			f.writes(t, size, at, b)
			f.hasJust(t, size, slices.Concat(made(4, size)[:at], b))
			f.writes(t, size, at, roomy(b))
			if at > 0 {
				f.writes(t, size, at-1, b)
			}
		}
	}
}

func TestWritesOfOneByteTooMany(t *testing.T) {
	for _, size := range sizes() {
		f := of(t, made(4, size))
		for _, at := range []int{0, 1, size / 2, size - 1, size} {
			f.refusesWrite(t, size, at, made(5, size-at+1))
			f.refusesWrite(t, size, at, make([]byte, size-at+1))
		}
		f.refusesWrite(t, size, size, []byte{9})
		f.hasJust(t, size, made(4, size))
	}
}

func TestWritesOfMoreBytesThanTheFlashHas(t *testing.T) {
	for _, size := range sizes() {
		f := of(t, made(4, size))
		for _, many := range []int{size + 1, size + 2, 2 * size, 2*size + 1, maxFlash + 1, 2 * maxFlash} {
			if many <= size {
				continue
			}
			for _, at := range []int{-1, 0, 1, size - 1, size, size + 1} {
				f.refusesWrite(t, size, at, make([]byte, many))
			}
			f.refusesWrite(t, size, size-many, make([]byte, many)) // its last places are there
		}
		f.hasJust(t, size, made(4, size))
	}
}

func TestAWriteThatWasRefusedIsNoHindrance(t *testing.T) {
	f := of(t, []byte{1, 2, 3})
	f.refusesWrite(t, "one too many", 2, []byte{8, 9})
	f.writes(t, "behind it", 1, []byte{8, 9})
	f.hasJust(t, "behind it", []byte{1, 8, 9})
}

func TestTheLastWriteCounts(t *testing.T) {
	f := blank(t, 6)
	f.writes(t, "first", 0, []byte{1, 2, 3, 4})
	f.writes(t, "over its end", 2, []byte{5, 6, 7})
	f.hasJust(t, "over its end", []byte{1, 2, 5, 6, 7, 0})
	f.writes(t, "over its beginning", 0, []byte{8, 9, 10})
	f.hasJust(t, "over its beginning", []byte{8, 9, 10, 6, 7, 0})
	f.writes(t, "0 again", 1, []byte{0, 0})
	f.hasJust(t, "0 again", []byte{8, 0, 0, 6, 7, 0})
}

// P15.2: Tear

func TestTearsOfCountsThatMayNotBe(t *testing.T) {
	for _, size := range sizes() {
		f := of(t, made(4, size))
		for _, at := range []int{0, 1, size / 2, size - 1, size} {
			for _, b := range [][]byte{nil, {}, made(5, size-at), roomy(made(5, size-at)), made(5, 9)[:min(1, size-at)]} {
				f.refusesTear(t, size, at, b, append(farInts(), -1, len(b)+1, len(b)+2, 2*len(b)+1)...)
			}
		}
		f.hasJust(t, size, made(4, size))
	}
}

func TestTearsWhoseRoomIsBehindTheBytes(t *testing.T) {
	// The memory behind b has more bytes, but b hasn't.
	b := roomy([]byte{1, 2, 3})
	f := blank(t, 9)
	for n := 4; n <= cap(b)+1; n++ {
		f.refusesTear(t, "behind", 0, b, n)
	}
	f.tears(t, "all", 0, b, 3)
	f.hasJust(t, "all", []byte{1, 2, 3, 0, 0, 0, 0, 0, 0})
}

func TestTearsOfNone(t *testing.T) {
	for _, size := range sizes() {
		f := of(t, made(4, size))
		for _, at := range []int{0, 1, size / 2, size - 1, size} {
			f.tears(t, size, at, nil, 0)
			f.tears(t, size, at, []byte{}, 0)
			f.tears(t, size, at, made(5, size-at), 0)
		}
		f.hasJust(t, size, made(4, size))
	}
}

func TestTearsOfAll(t *testing.T) {
	for _, size := range sizes() {
		for _, at := range []int{0, 1, size / 2, size - 1, size} {
			f := of(t, made(4, size))
			f.tears(t, size, at, made(5, size-at), size-at)
			f.hasJust(t, size, slices.Concat(made(4, size)[:at], made(5, size-at)))
		}
	}
}

func TestEachCountThatIsTorn(t *testing.T) {
	for _, many := range []int{1, 2, 24, 100} {
		b := made(5, many)
		for n := range many + 1 {
			f := of(t, made(4, many+7))
			f.tears(t, n, 3, b, n)
			f.hasJust(t, n, slices.Concat(made(4, many+7)[:3], b[:n], made(4, many+7)[3+n:]))
		}
	}
}

func TestTearsAreRefusedWhereTheirWriteIs(t *testing.T) {
	for _, size := range []int{1, 2, 3, 64} {
		f := of(t, made(4, size))
		for at := range size + 1 {
			b := made(5, size-at+1)
			for n := range len(b) + 1 {
				f.refusesTear(t, size, at, b, n)
			}
			// The same bytes that would be written may be, alone.
			alone := of(t, made(4, size))
			alone.writes(t, size, at, b[:size-at])
		}
		f.hasJust(t, size, made(4, size))
	}
}

func TestTearsAtPlacesThatAreNone(t *testing.T) {
	f := of(t, made(4, 8))
	for _, at := range append(farInts(), -8, -1, 9, 10, 16) {
		for _, b := range [][]byte{nil, {}, {0}, made(5, 8), made(5, 9)} {
			f.refusesTear(t, "no place", at, b, math.MinInt, -1, 0, 1, len(b), len(b)+1, math.MaxInt)
		}
	}
}

// P15.2: Read

func TestReadsAtPlacesThatAreNone(t *testing.T) {
	for _, size := range sizes() {
		f := of(t, made(4, size))
		for _, at := range append(farInts(), -size-1, -size, -1, size+1, size+2, 2*size+1) {
			if at >= 0 && at <= size {
				continue
			}
			for _, n := range append(farInts(), -size, -at, 0, 1, 2, size-1, size, size+1, size-at) {
				f.refusesRead(t, size, at, n)
			}
		}
	}
}

func TestReadsOfCountsThatMayNotBe(t *testing.T) {
	for _, size := range sizes() {
		f := of(t, made(4, size))
		for _, at := range []int{0, 1, size / 2, size - 1, size} {
			for _, n := range append(farInts(), -size, -at-1, -1, size-at+1, size-at+2, size+1, 2*size+1) {
				if n >= 0 && n <= size-at {
					t.Fatal(size, at, n)
				}
				f.refusesRead(t, size, at, n)
			}
		}
	}
}

func TestReadsWhoseSumIsNoInt(t *testing.T) {
	for _, size := range sizes() {
		f := of(t, made(4, size))
		for _, back := range []int{0, 1, 2, size - 1, size} {
			f.refusesRead(t, size, back, math.MaxInt)
			f.refusesRead(t, size, math.MaxInt, back)
			f.refusesRead(t, size, math.MaxInt-back, math.MaxInt)
			f.refusesRead(t, size, math.MaxInt, math.MaxInt-back)
			f.refusesRead(t, size, size, math.MaxInt-back)
			f.refusesRead(t, size, math.MinInt+back, math.MinInt)
			f.refusesRead(t, size, math.MinInt+back, math.MaxInt)
			f.refusesRead(t, size, math.MaxInt, math.MinInt+back)
			f.refusesRead(t, size, back, math.MinInt)
		}
		f.refusesRead(t, size, math.MinInt, math.MinInt) // their sum is 0
		f.refusesRead(t, size, math.MaxInt, math.MinInt+1)
	}
}

func TestReadsOfNoPlaces(t *testing.T) {
	for _, size := range sizes() {
		f := of(t, made(4, size))
		for _, at := range []int{0, 1, size / 2, size - 1, size} {
			if b, err := f.Read(at, 0); err != nil || len(b) != 0 {
				t.Error(size, at, len(b), err)
			}
		}
		f.refusesRead(t, size, -1, 0)
		f.refusesRead(t, size, size+1, 0)
	}
}

func TestReadsToTheEnd(t *testing.T) {
	for _, size := range sizes() {
		f, all := of(t, made(4, size)), made(4, size)
		for _, at := range []int{0, size / 3, size / 2, size - 1} {
			if b, err := f.Read(at, size-at); err != nil || !bytes.Equal(b, all[at:]) {
				t.Error(size, at, len(b), err)
			}
			if b, err := f.Read(at, 1); err != nil || len(b) != 1 || b[0] != all[at] {
				t.Error(size, at, b, err)
			}
			if b, err := f.Read(0, at); err != nil || !bytes.Equal(b, all[:at]) {
				t.Error(size, at, len(b), err)
			}
			f.refusesRead(t, size, at, size-at+1)
		}
	}
}

func TestReadsOverAWritesEdges(t *testing.T) {
	f := of(t, []byte{1, 2, 3, 4, 5, 6, 7, 8})
	f.writes(t, "in the middle", 3, []byte{0x33, 0x34})
	for _, c := range []struct {
		name  string
		at, n int
		b     []byte
	}{
		{"what was written", 3, 2, []byte{0x33, 0x34}},
		{"its first byte", 3, 1, []byte{0x33}},
		{"its last byte", 4, 1, []byte{0x34}},
		{"ahead of it", 0, 3, []byte{1, 2, 3}},
		{"behind it", 5, 3, []byte{6, 7, 8}},
		{"over its beginning", 2, 2, []byte{3, 0x33}},
		{"over its end", 4, 2, []byte{0x34, 6}},
		{"over both", 2, 4, []byte{3, 0x33, 0x34, 6}},
		{"all", 0, 8, []byte{1, 2, 3, 0x33, 0x34, 6, 7, 8}},
	} {
		if b, err := f.Read(c.at, c.n); err != nil || !bytes.Equal(b, c.b) {
			t.Error(c.name, b, err)
		}
	}
}

func TestReadingChangesNothing(t *testing.T) {
	f := of(t, made(4, 9))
	for at := -2; at < 12; at++ {
		for n := -2; n < 12; n++ {
			f.Read(at, n)
			f.hasJust(t, []int{at, n}, made(4, 9))
		}
	}
}

// P15.2, by another way

func TestAllSmallFlashes(t *testing.T) {
	for size := 1; size <= 6; size++ {
		for at := -2; at <= size+2; at++ {
			for many := range size + 3 {
				againstModel(t, size, at, made(5, many))
				againstModel(t, size, at, roomy(made(6, many)))
			}
		}
	}
}

// againstModel tries one place, with each count of the bytes that are torn,
// and of those that are read.
func againstModel(t *testing.T, size, at int, b []byte) {
	t.Helper()
	name := strconv.Itoa(size) + ", at " + strconv.Itoa(at) + ", " + strconv.Itoa(len(b)) + " bytes"
	whole, wholeModel := of(t, made(4, size)), model(made(4, size))
	err := whole.Write(at, b)
	if may := wholeModel.write(at, b); may != (err == nil) || !may && !isArg(err) {
		t.Error(name, err)
	}
	whole.hasJust(t, name, wholeModel)
	for n := -2; n <= len(b)+2; n++ {
		f, m := of(t, made(4, size)), model(made(4, size))
		err := f.Tear(at, b, n)
		if may := m.tear(at, b, n); may != (err == nil) || !may && !isArg(err) {
			t.Error(name, n, err)
		}
		f.hasJust(t, name, m)
		want, may := wholeModel.read(at, n)
		told, err := whole.Read(at, n)
		if may != (err == nil) || !may && !isArg(err) || !bytes.Equal(told, want) {
			t.Error(name, n, told, err)
		}
	}
}

func TestManyCallsOneBehindTheOther(t *testing.T) {
	r := rand.New(rand.NewPCG(15, 15))
	for _, size := range []int{1, 2, 5, 64, 1000, 70000} {
		f, m := blank(t, size), make(model, size)
		for call := range 400 {
			at, many := r.IntN(size+3)-1, r.IntN(size+3)
			if call%2 == 0 {
				many = min(many, max(0, size-at)) // so that it fits, if at is a place
			}
			b := made(uint64(call), many)
			n := r.IntN(many+3) - 1
			err := f.Tear(at, b, n)
			if may := m.tear(at, b, n); may != (err == nil) {
				t.Fatal(size, at, many, n, err)
			}
			if call%3 == 0 {
				err := f.Write(at, b)
				if may := m.write(at, b); may != (err == nil) {
					t.Fatal(size, at, many, err)
				}
			}
			f.hasJust(t, size, m)
			from, count := r.IntN(size+3)-1, r.IntN(size+3)-1
			want, may := m.read(from, count)
			if told, err := f.Read(from, count); may != (err == nil) || !bytes.Equal(told, want) {
				t.Fatal(size, from, count, err)
			}
		}
	}
}

// P15.3

func TestWhatIsHandedInStays(t *testing.T) {
	for name, call := range map[string]func(f *Flash, b []byte){
		"Of": func(f *Flash, b []byte) {
			other, _ := Of(b)
			other.Write(0, []byte{9, 9, 9})
		},
		"Write":         func(f *Flash, b []byte) { f.Write(2, b) },
		"Write, twice":  func(f *Flash, b []byte) { f.Write(2, b); f.Write(3, b) },
		"Write, no fit": func(f *Flash, b []byte) { f.Write(7, b) },
		"Write, nowhere": func(f *Flash, b []byte) {
			f.Write(-1, b)
			f.Write(math.MaxInt, b)
		},
		"Tear":         func(f *Flash, b []byte) { f.Tear(2, b, 2) },
		"Tear, all":    func(f *Flash, b []byte) { f.Tear(2, b, 3) },
		"Tear, none":   func(f *Flash, b []byte) { f.Tear(2, b, 0) },
		"Tear, no fit": func(f *Flash, b []byte) { f.Tear(7, b, 1) },
		"Tear, more":   func(f *Flash, b []byte) { f.Tear(2, b, 4) },
	} {
		memory := made(7, 9)
		f := of(t, made(4, 9))
		call(f, memory[3:6])
		f.Write(0, made(8, 9))
		if !bytes.Equal(memory, made(7, 9)) {
			t.Error(name, memory)
		}
	}
}

func TestWhatIsHandedInIsNotKept(t *testing.T) {
	b := made(7, 9)
	f := of(t, b)
	clear(b)
	f.hasJust(t, "Of", made(7, 9))
	b = made(5, 3)
	f.Write(1, b)
	clear(b)
	want := slices.Concat(made(7, 9)[:1], made(5, 3), made(7, 9)[4:])
	f.hasJust(t, "Write", want)
	b = made(6, 9)
	f.Write(0, b)
	clear(b)
	f.hasJust(t, "Write, all", made(6, 9))
	b = made(5, 3)
	f.Tear(1, b, 2)
	clear(b)
	want = slices.Concat(made(6, 9)[:1], made(5, 3)[:2], made(6, 9)[3:])
	f.hasJust(t, "Tear", want)
	b = made(7, 9)
	f.Tear(0, b, 9)
	clear(b)
	f.hasJust(t, "Tear, all", made(7, 9))
}

func TestOneBufferForAllWrites(t *testing.T) {
	f, buffer := blank(t, 256), make([]byte, 1)
	var want []byte
	for at := range 256 {
		buffer[0] = byte(255 - at)
		f.Write(at, buffer)
		want = append(want, byte(255-at))
	}
	f.hasJust(t, "one buffer", want)
}

func TestBytesThatWereToldAreTheCallers(t *testing.T) {
	for _, size := range sizes() {
		f := of(t, made(4, size))
		all := f.Bytes()
		read, _ := f.Read(0, size)
		part, _ := f.Read(size/2, size-size/2)
		head, _ := f.Read(0, size/2)
		if !bytes.Equal(head, made(4, size)[:size/2]) {
			t.Error(size, "head")
		}
		for _, b := range [][]byte{all, read, part, head} {
			clear(b)
			clear(b[:cap(b)])
			_ = append(b, 0, 0, 0)
			f.hasJust(t, size, made(4, size))
		}
	}
}

func TestWhatWasToldStaysWhenMoreIsWritten(t *testing.T) {
	for _, size := range sizes() {
		f := of(t, made(4, size))
		all := f.Bytes()
		read, _ := f.Read(0, size)
		part, _ := f.Read(size/2, size-size/2)
		f.writes(t, size, 0, bytes.Repeat([]byte{0}, size))
		f.tears(t, size, 0, made(5, size), size)
		if !bytes.Equal(all, made(4, size)) || !bytes.Equal(read, made(4, size)) || !bytes.Equal(part, made(4, size)[size/2:]) {
			t.Error(size, "it changed")
		}
	}
}

func TestWhatWasToldTwiceIsNotOneMemory(t *testing.T) {
	f := of(t, made(4, 9))
	a, b := f.Bytes(), f.Bytes()
	c, _ := f.Read(0, 9)
	d, _ := f.Read(0, 9)
	clear(a)
	clear(c)
	if !bytes.Equal(b, made(4, 9)) || !bytes.Equal(d, made(4, 9)) {
		t.Error(b, d)
	}
}

func TestTwoFlashesBesideEachOther(t *testing.T) {
	a, b := blank(t, 9), blank(t, 9)
	a.writes(t, "a", 0, made(1, 9))
	b.hasJust(t, "b", make([]byte, 9))
	b.writes(t, "b", 3, made(2, 4))
	b.tears(t, "b", 0, made(3, 2), 1)
	a.hasJust(t, "a", made(1, 9))
	shared := made(4, 9)
	c, d := of(t, shared), of(t, shared)
	c.writes(t, "c", 2, []byte{0, 0})
	d.hasJust(t, "d", made(4, 9))
	e := of(t, c.Bytes())
	c.writes(t, "c", 0, made(5, 9))
	e.hasJust(t, "e", slices.Concat(made(4, 9)[:2], []byte{0, 0}, made(4, 9)[4:]))
	blank(t, 9).hasJust(t, "one more", make([]byte, 9))
}

func TestFlashesOfPartsOfOneMemory(t *testing.T) {
	memory := made(4, 9)
	a, b := of(t, memory[:5]), of(t, memory[3:])
	a.writes(t, "a", 0, make([]byte, 5))
	a.refusesWrite(t, "a", 5, []byte{0})
	b.hasJust(t, "b", made(4, 9)[3:])
	b.writes(t, "b", 0, bytes.Repeat([]byte{0xff}, 6))
	a.hasJust(t, "a", make([]byte, 5))
	if !bytes.Equal(memory, made(4, 9)) {
		t.Error(memory)
	}
}

func TestAFlashesOwnBytesWrittenToIt(t *testing.T) {
	f := of(t, made(4, 9))
	f.writes(t, "behind", 2, f.Bytes()[:7])
	f.hasJust(t, "behind", slices.Concat(made(4, 9)[:2], made(4, 9)[:7]))
	part, _ := f.Read(2, 7)
	f.writes(t, "ahead", 0, part)
	f.hasJust(t, "ahead", slices.Concat(made(4, 9)[:7], made(4, 9)[5:7]))
}

// P15.4

func TestWhatWasWrittenIsReadAndOtherPlacesStay(t *testing.T) {
	const size = 40
	for at := range size + 1 {
		for many := range size - at + 1 {
			f, b := of(t, made(4, size)), made(5, many)
			if err := f.Write(at, b); err != nil {
				t.Fatal(at, many, err)
			}
			if told, err := f.Read(at, many); err != nil || !bytes.Equal(told, b) {
				t.Error(at, many, told, err)
			}
			ahead, err := f.Read(0, at)
			behind, err2 := f.Read(at+many, size-at-many)
			if err != nil || err2 != nil || !bytes.Equal(ahead, made(4, size)[:at]) || !bytes.Equal(behind, made(4, size)[at+many:]) {
				t.Error(at, many, "beside it", err, err2)
			}
		}
	}
}

func TestAWriteThatIsCutOffAndItsRestAreTheWhole(t *testing.T) {
	const size = 30
	for at := range size + 1 {
		for many := range size - at + 1 {
			for n := range many + 1 {
				cutAndWhole(t, size, at, many, n)
			}
		}
	}
	for _, n := range []int{0, 1, maxFlash / 2, maxFlash - 1, maxFlash} {
		cutAndWhole(t, maxFlash, 0, maxFlash, n)
	}
}

// cutAndWhole holds a write that is cut off behind n bytes, and its rest,
// whichever comes first, against one that isn't.
func cutAndWhole(t *testing.T, size, at, many, n int) {
	t.Helper()
	b := made(5, many)
	whole, cut, back, again := of(t, made(4, size)), of(t, made(4, size)), of(t, made(4, size)), of(t, made(4, size))
	for _, err := range []error{
		whole.Write(at, b),
		cut.Tear(at, b, n), cut.Write(at+n, b[n:]),
		back.Write(at+n, b[n:]), back.Tear(at, b, n),
		again.Tear(at, b, n), again.Write(at, b),
	} {
		if err != nil {
			t.Error(size, at, many, n, err)
		}
	}
	for _, f := range []*Flash{cut, back, again} {
		if !bytes.Equal(f.Bytes(), whole.Bytes()) {
			t.Error(size, at, many, n, "not the whole")
		}
	}
}

func TestAWriteThatIsCutOffTwice(t *testing.T) {
	b := made(5, 12)
	for n := range 13 {
		for more := range 13 - n {
			whole, cut := of(t, made(4, 16)), of(t, made(4, 16))
			whole.writes(t, "whole", 2, b)
			cut.tears(t, "first", 2, b, n)
			cut.tears(t, "then", 2+n, b[n:], more)
			cut.writes(t, "rest", 2+n+more, b[n+more:])
			cut.hasJust(t, []int{n, more}, whole.Bytes())
		}
	}
}

// P1

func TestEveryCallEnds(t *testing.T) {
	numbers := append(farInts(), -1, 0, 1, 2, 3, 4, 5, maxFlash)
	f := of(t, []byte{1, 2, 3})
	for _, at := range numbers {
		New(at)
		for _, n := range numbers {
			f.Read(at, n)
			for many := range 6 {
				b := make([]byte, many)
				f.Write(at, b)
				f.Tear(at, b, n)
			}
		}
	}
	if f.Size() != 3 {
		t.Error(f.Size())
	}
}
