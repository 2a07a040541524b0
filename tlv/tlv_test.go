package tlv

import (
	"bytes"
	"encoding/binary"
	"encoding/hex"
	"math"
	"math/rand/v2"
	"slices"
	"strings"
	"testing"

	"clapper/api"
)

// valueLengths lie about the ends of a length's two bytes.
var valueLengths = []int{0, 1, 2, 254, 255, 256, 257, 511, 512, 4096, 65279, 65280, 65534, 65535}

// made is n bytes that look unlike each other, the same in each run.
func made(n int, seed uint64) []byte {
	r := rand.New(rand.NewPCG(uint64(n), seed))
	b := make([]byte, n)
	for i := range b {
		b[i] = byte(r.Uint32())
	}
	return b
}

// tagged is fields of those Tags, of no Bytes.
func tagged(tags ...int) []api.Field {
	var l []api.Field
	for _, tag := range tags {
		l = append(l, api.Field{Tag: tag})
	}
	return l
}

// rising is n fields, Tags from first on, of few Bytes each.
func rising(n, first int) []api.Field {
	var l []api.Field
	for i := range n {
		l = append(l, api.Field{Tag: first + i, Bytes: made(i%5, uint64(i))})
	}
	return l
}

func unhex(text string) []byte {
	b, err := hex.DecodeString(strings.ReplaceAll(text, " ", ""))
	if err != nil {
		panic(err)
	}
	return b
}

// otherWay is the bytes of fields, may they be or not.
func otherWay(l []api.Field) []byte {
	var b []byte
	for _, f := range l {
		b = binary.BigEndian.AppendUint16(append(b, byte(f.Tag)), uint16(len(f.Bytes)))
		b = append(b, f.Bytes...)
	}
	return b
}

func sameField(a, b api.Field) bool { return a.Tag == b.Tag && bytes.Equal(a.Bytes, b.Bytes) }

// same takes lists of no elements as alike, however told.
func same(a, b []api.Field) bool { return slices.EqualFunc(a, b, sameField) }

// copied shares nothing with l.
func copied(l []api.Field) []api.Field {
	l = slices.Clone(l)
	for i := range l {
		l[i].Bytes = bytes.Clone(l[i].Bytes)
	}
	return l
}

func mustPut(t *testing.T, l []api.Field) []byte {
	t.Helper()
	b, err := Put(l)
	if err != nil {
		t.Fatal(err)
	}
	return b
}

func mustGet(t *testing.T, b []byte) []api.Field {
	t.Helper()
	l, err := Get(b)
	if err != nil {
		t.Fatal(err)
	}
	return l
}

func refusesPut(t *testing.T, name any, l []api.Field) {
	t.Helper()
	if May(l) {
		t.Error(name, "may")
	}
	if b, err := Put(l); b != nil || err != error(api.ErrArg) {
		t.Error(name, len(b), err)
	}
}

func refusesGet(t *testing.T, name any, b []byte) {
	t.Helper()
	if l, err := Get(b); l != nil || err != error(api.ErrForm) {
		t.Error(name, len(l), err)
	}
}

// takes holds fields, which may be, to their bytes, both ways.
func takes(t *testing.T, name any, l []api.Field, want []byte) {
	t.Helper()
	if !May(l) {
		t.Error(name, "may not")
	}
	if b, err := Put(l); err != nil || !bytes.Equal(b, want) {
		t.Error(name, "put", len(b), err)
	}
	if got, err := Get(want); err != nil || !same(got, l) {
		t.Error(name, "got", len(got), err)
	}
}

// alone is a list of one field.
func alone(tag int, b []byte) []api.Field { return []api.Field{{Tag: tag, Bytes: b}} }

// samples are lists that may be, small and large.
func samples() [][]api.Field {
	return [][]api.Field{
		nil, {}, tagged(1), tagged(255), tagged(1, 2, 255), alone(1, []byte("a")), alone(7, made(256, 1)),
		{{Tag: 3, Bytes: []byte{}}, {Tag: 4, Bytes: made(300, 2)}, {Tag: 200, Bytes: make([]byte, 5)}},
		rising(api.MaxFields, 1), rising(api.MaxFields, 192), alone(9, made(api.MaxValue, 3)),
		{{Tag: 1, Bytes: made(api.MaxValue, 4)}, {Tag: 2}, {Tag: 255, Bytes: made(api.MaxValue, 5)}},
	}
}

// P8.1

func TestKnownFields(t *testing.T) {
	for _, c := range []struct {
		fields []api.Field
		bytes  string
	}{
		{alone(1, []byte{0x61}), "01 00 01 61"},
		{tagged(1), "01 00 00"},
		{tagged(255), "ff 00 00"},
		{tagged(1, 2, 255), "01 00 00 02 00 00 ff 00 00"},
		{alone(0x80, []byte{0, 0xff}), "80 00 02 00 ff"},
		{[]api.Field{{Tag: 1, Bytes: []byte("a")}, {Tag: 9}}, "01 00 01 61 09 00 00"},
		{[]api.Field{{Tag: 9}, {Tag: 10, Bytes: []byte("a")}}, "09 00 00 0a 00 01 61"},
		{[]api.Field{{Tag: 2, Bytes: []byte{3, 0, 0}}, {Tag: 5, Bytes: []byte{1}}}, "02 00 03 03 00 00 05 00 01 01"},
	} {
		takes(t, c.bytes, c.fields, unhex(c.bytes))
	}
}

func TestNoFields(t *testing.T) {
	for _, l := range [][]api.Field{nil, {}} {
		for _, b := range [][]byte{nil, {}} {
			takes(t, "none", l, b)
		}
	}
}

func TestEachCountOfFields(t *testing.T) {
	for many := range 256 {
		l := rising(many, 1)
		if many <= api.MaxFields {
			takes(t, many, l, otherWay(l))
			continue
		}
		refusesPut(t, many, l)
		refusesGet(t, many, otherWay(l))
	}
}

func TestMostFieldsAndOneMore(t *testing.T) {
	takes(t, "first Tags", rising(64, 1), otherWay(rising(64, 1)))
	takes(t, "last Tags", rising(64, 192), otherWay(rising(64, 192)))
	refusesPut(t, "first Tags", rising(65, 1))
	refusesGet(t, "first Tags", otherWay(rising(65, 1)))
	refusesPut(t, "last Tags", rising(65, 191))
	refusesGet(t, "last Tags", otherWay(rising(65, 191)))
}

func TestFarTooManyFields(t *testing.T) {
	for _, tag := range []int{0, 1, 255} {
		l := slices.Repeat(tagged(tag), 100000)
		refusesPut(t, tag, l)
		refusesGet(t, tag, otherWay(l))
	}
	// Behind as many as may be, bytes that are no field are at fault likewise.
	whole := otherWay(rising(64, 1))
	for _, more := range []string{"41", "41 00", "41 00 01", "00 00 00", "41 ff ff"} {
		refusesGet(t, more, append(bytes.Clone(whole), unhex(more)...))
	}
}

func TestEachTag(t *testing.T) {
	for tag := -300; tag <= 600; tag++ {
		for _, b := range [][]byte{nil, {}, []byte("a")} {
			if tag >= 1 && tag <= 255 {
				takes(t, tag, alone(tag, b), otherWay(alone(tag, b)))
			} else {
				refusesPut(t, tag, alone(tag, b))
			}
		}
	}
}

func TestTagsThatMayNotBeAreSoAtEachPlace(t *testing.T) {
	for _, tag := range []int{0, -1, 256, 257, 511, 512, 1 << 16, 1<<16 + 3, 1 << 32, 1<<32 + 3, math.MinInt, math.MinInt + 3, math.MaxInt, -253} {
		for at := range 4 {
			refusesPut(t, []int{tag, at}, slices.Insert(tagged(2, 4, 6), at, api.Field{Tag: tag}))
		}
		refusesPut(t, tag, tagged(tag))
	}
}

func TestEachTwoTags(t *testing.T) {
	for one := range 258 {
		for two := range 258 {
			l := tagged(one, two)
			want := one >= 1 && two > one && two <= 255
			if May(l) != want {
				t.Error("may", one, two)
			}
			if _, err := Put(l); (err == nil) != want {
				t.Error("put", one, two, err)
			}
			if one > 255 || two > 255 {
				continue
			}
			if got, err := Get(otherWay(l)); (err == nil) != want || want && !same(got, l) || !want && got != nil {
				t.Error("got", one, two, err)
			}
		}
	}
}

func TestTagsThatDoNotRise(t *testing.T) {
	for _, tags := range [][]int{
		{1, 1}, {255, 255}, {2, 1}, {255, 1}, {1, 2, 2}, {1, 1, 2}, {1, 3, 2}, {2, 3, 1}, {1, 2, 1},
		{5, 6, 7, 7}, {128, 127}, {1, 128, 1}, {0, 1}, {1, 0}, {0, 0}, {1, 2, 0},
	} {
		l := tagged(tags...)
		for i := range l {
			l[i].Bytes = made(i%2, 1)
		}
		refusesPut(t, tags, l)
		refusesGet(t, tags, otherWay(l))
	}
	last := rising(64, 1)
	last[63].Tag = 63
	refusesPut(t, "the last of 64", last)
	refusesGet(t, "the last of 64", otherWay(last))
}

func TestBytesOfEachLength(t *testing.T) {
	for _, n := range valueLengths {
		for _, b := range [][]byte{made(n, 1), make([]byte, n)} {
			takes(t, n, alone(1, b), otherWay(alone(1, b)))
			l := []api.Field{{Tag: 3, Bytes: []byte("a")}, {Tag: 4, Bytes: b}, {Tag: 255, Bytes: b}}
			takes(t, n, l, otherWay(l))
		}
	}
	if b := mustPut(t, alone(1, make([]byte, 258))); len(b) != 261 || b[1] != 1 || b[2] != 2 {
		t.Error("the higher first", b[:3])
	}
}

func TestBytesThatAreTooMany(t *testing.T) {
	for _, n := range []int{65536, 65537, 65536 + 256, 2 * 65536, 1 << 24} {
		b := make([]byte, n)
		refusesPut(t, n, alone(1, b))
		refusesPut(t, n, []api.Field{{Tag: 1, Bytes: []byte("a")}, {Tag: 2, Bytes: b}})
		refusesPut(t, n, []api.Field{{Tag: 1, Bytes: b}, {Tag: 2}})
	}
	// How much room is behind the Bytes is nothing of theirs.
	takes(t, "room", alone(1, make([]byte, 1, 1<<17)), []byte{1, 0, 1, 0})
}

func TestBytesThatAreNil(t *testing.T) {
	takes(t, "nil", alone(1, nil), []byte{1, 0, 0})
	takes(t, "of none", alone(1, []byte{}), []byte{1, 0, 0})
	takes(t, "both", []api.Field{{Tag: 1}, {Tag: 2, Bytes: []byte{}}, {Tag: 3}}, unhex("01 00 00 02 00 00 03 00 00"))
}

func TestFieldsAsLargeAsMayBe(t *testing.T) {
	l := rising(api.MaxFields, 192)
	for i := range l {
		l[i].Bytes = made(api.MaxValue, uint64(i))
	}
	takes(t, "all", l, otherWay(l))
	l[63].Bytes = make([]byte, api.MaxValue+1)
	refusesPut(t, "one byte more", l)
}

func TestBytesCutOffAtEveryPlace(t *testing.T) {
	for i, l := range [][]api.Field{
		alone(1, []byte("a")), alone(1, made(300, 1)), tagged(1, 2, 3), rising(64, 1),
		{{Tag: 1}, {Tag: 5, Bytes: made(256, 2)}, {Tag: 6, Bytes: make([]byte, 4)}, {Tag: 255, Bytes: []byte("abc")}},
	} {
		whole := otherWay(l)
		ends := map[int]int{}
		for many := range len(l) + 1 {
			ends[len(otherWay(l[:many]))] = many
		}
		for cut := range len(whole) + 1 {
			if many, end := ends[cut]; end {
				takes(t, []int{i, cut}, l[:many], whole[:cut])
			} else {
				refusesGet(t, []int{i, cut}, whole[:cut])
			}
		}
	}
}

func TestBytesCutOffKnowNothingOfWhatIsBehindThem(t *testing.T) {
	whole := otherWay(alone(1, []byte("abc")))
	for cut := 1; cut < len(whole); cut++ {
		refusesGet(t, cut, whole[:cut]) // with room, and the rest, behind it
		refusesGet(t, cut, slices.Clip(bytes.Clone(whole[:cut])))
	}
}

func TestBytesMoreThanFields(t *testing.T) {
	for i, l := range samples() {
		if len(l) == 0 {
			continue
		}
		whole := otherWay(l)
		for more := range 256 {
			refusesGet(t, []int{i, more}, append(whole, byte(more)))
			refusesGet(t, []int{i, more}, append(whole, byte(more), 0))
		}
	}
	for one := range 256 {
		refusesGet(t, one, []byte{byte(one)})
		refusesGet(t, one, []byte{byte(one), 0})
		refusesGet(t, one, []byte{1, byte(one)})
	}
}

func TestLengthsLongerThanWhatIsLeft(t *testing.T) {
	for _, n := range valueLengths {
		b := otherWay(alone(1, made(n, 1)))
		ahead := otherWay(alone(1, []byte("a")))
		for _, more := range []int{1, 2, 255, 256, 257, 65535} {
			if n+more > 65535 {
				continue
			}
			binary.BigEndian.PutUint16(b[1:], uint16(n+more))
			b[0] = 1
			refusesGet(t, []int{n, more}, b)
			b[0] = 2
			refusesGet(t, []int{n, more}, slices.Concat(ahead, b))
		}
	}
}

// allStrings hands over each string of at most so many of those bytes.
func allStrings(letters []byte, most int, each func([]byte)) {
	b := make([]byte, 0, most)
	var grow func()
	grow = func() {
		each(b)
		if len(b) == most {
			return
		}
		for _, letter := range letters {
			b = append(b, letter)
			grow()
			b = b[:len(b)-1]
		}
	}
	grow()
}

// smallFields are all of Tags 1 and 2, of at most two Bytes from 0 to 2, by
// their bytes.
func smallFields() map[string][]api.Field {
	var values [][]byte
	allStrings([]byte{0, 1, 2}, 2, func(b []byte) { values = append(values, bytes.Clone(b)) })
	all := map[string][]api.Field{"": nil}
	keep := func(l []api.Field) { all[string(otherWay(l))] = l }
	for _, one := range values {
		keep(alone(1, one))
		keep(alone(2, one))
		for _, two := range values {
			keep([]api.Field{{Tag: 1, Bytes: one}, {Tag: 2, Bytes: two}})
		}
	}
	return all
}

func TestGetOfAllSmallBytes(t *testing.T) {
	all, seen := smallFields(), 0
	allStrings([]byte{0, 1, 2}, 10, func(b []byte) {
		want, may := all[string(b)]
		if !may {
			refusesGet(t, b, b)
			return
		}
		seen++
		if l, err := Get(b); err != nil || !same(l, want) {
			t.Error(b, l, err)
		}
	})
	if seen != 1+13+13+13*13 || seen != len(all) {
		t.Error(seen, len(all))
	}
}

// P8.2

func TestKnownNumbers(t *testing.T) {
	for _, c := range []struct {
		number int
		bytes  string
	}{
		{0, "00 00 00 00 00 00 00 00"},
		{1, "00 00 00 00 00 00 00 01"},
		{255, "00 00 00 00 00 00 00 ff"},
		{256, "00 00 00 00 00 00 01 00"},
		{65535, "00 00 00 00 00 00 ff ff"},
		{65536, "00 00 00 00 00 01 00 00"},
		{1<<31 - 1, "00 00 00 00 7f ff ff ff"},
		{1 << 31, "00 00 00 00 80 00 00 00"},
		{1<<32 - 1, "00 00 00 00 ff ff ff ff"},
		{1 << 32, "00 00 00 01 00 00 00 00"},
		{1 << 62, "40 00 00 00 00 00 00 00"},
		{0x0102030405060708, "01 02 03 04 05 06 07 08"},
		{math.MaxInt64 - 1, "7f ff ff ff ff ff ff fe"},
		{math.MaxInt64, "7f ff ff ff ff ff ff ff"},
	} {
		if b := Number(c.number); !bytes.Equal(b, unhex(c.bytes)) {
			t.Error(c.number, b)
		}
		if n, err := Of(unhex(c.bytes)); err != nil || n != c.number {
			t.Error(c.bytes, n, err)
		}
	}
}

func TestKnownNumbersBelow0(t *testing.T) {
	for _, c := range []struct {
		number int
		bytes  string
	}{
		{-1, "ff ff ff ff ff ff ff ff"},
		{-2, "ff ff ff ff ff ff ff fe"},
		{-256, "ff ff ff ff ff ff ff 00"},
		{-257, "ff ff ff ff ff ff fe ff"},
		{-1 << 31, "ff ff ff ff 80 00 00 00"},
		{-1 << 32, "ff ff ff ff 00 00 00 00"},
		{math.MinInt64 + 1, "80 00 00 00 00 00 00 01"},
		{math.MinInt64, "80 00 00 00 00 00 00 00"},
	} {
		if b := Number(c.number); !bytes.Equal(b, unhex(c.bytes)) {
			t.Error(c.number, b)
		}
		refusesOf(t, unhex(c.bytes))
	}
}

func refusesOf(t *testing.T, b []byte) {
	t.Helper()
	if n, err := Of(b); n != 0 || err != error(api.ErrForm) {
		t.Error(b, n, err)
	}
}

func TestOfOfEachCountOfBytes(t *testing.T) {
	for many := range 300 {
		for _, b := range [][]byte{make([]byte, many), bytes.Repeat([]byte{1}, many), bytes.Repeat([]byte{0x7f}, many)} {
			if many != 8 {
				refusesOf(t, b)
			} else if n, err := Of(b); err != nil || n != int(binary.BigEndian.Uint64(b)) {
				t.Error(b, n, err)
			}
		}
	}
	refusesOf(t, nil)
	refusesOf(t, Number(1)[:7]) // though the eighth is behind it
	refusesOf(t, Number(1)[1:])
	refusesOf(t, append(Number(1), 0))
	refusesOf(t, append([]byte{0}, Number(1)...))
}

func TestOfAtItsEdge(t *testing.T) {
	for _, number := range []uint64{1<<63 - 2, 1<<63 - 1} {
		if n, err := Of(binary.BigEndian.AppendUint64(nil, number)); err != nil || uint64(n) != number {
			t.Error(number, n, err)
		}
	}
	for _, number := range []uint64{1 << 63, 1<<63 + 1, 1<<63 + 1<<62, 1<<64 - 2, 1<<64 - 1} {
		refusesOf(t, binary.BigEndian.AppendUint64(nil, number))
	}
}

// numbers are every one near a power of two, and some between, both signs.
func numbers() []int {
	var l []int
	for bit := range 64 {
		for _, more := range []uint64{0, 1, math.MaxUint64} {
			n := int(uint64(1)<<bit + more)
			l = append(l, n, -n)
		}
	}
	r := rand.New(rand.NewPCG(8, 2))
	for range 1000 {
		l = append(l, int(r.Uint64()>>r.IntN(64)))
	}
	return l
}

func TestNumbersAreWhatAnotherWayTells(t *testing.T) {
	for _, n := range numbers() {
		want := binary.BigEndian.AppendUint64(nil, uint64(n))
		if b := Number(n); !bytes.Equal(b, want) {
			t.Error(n, b)
		}
		if n < 0 {
			refusesOf(t, want)
		} else if got, err := Of(want); err != nil || got != n {
			t.Error(n, got, err)
		}
	}
}

func TestOfOfEachByteAtEachPlace(t *testing.T) {
	for at := range 8 {
		for digit := range 256 {
			b := make([]byte, 8)
			b[at] = byte(digit)
			if at == 0 && digit > 127 {
				refusesOf(t, b)
			} else if n, err := Of(b); err != nil || n != digit<<(8*(7-at)) {
				t.Error(b, n, err)
			}
		}
	}
}

// P8.3

// withRoom is fields whose Bytes, and whose list, have room behind them, in
// which marks show whether anything is laid there.
func withRoom(l []api.Field) []api.Field {
	roomy := make([]api.Field, 0, len(l)+3)
	for _, f := range l {
		b := append(bytes.Clone(f.Bytes), "marks"...)[:len(f.Bytes)]
		roomy = append(roomy, api.Field{Tag: f.Tag, Bytes: b})
	}
	for range 3 {
		roomy = append(roomy, api.Field{Tag: 77, Bytes: []byte("mark")})
	}
	return roomy[:len(l)]
}

func roomIsAsItWas(l []api.Field) bool {
	for _, f := range l {
		if string(f.Bytes[len(f.Bytes):len(f.Bytes)+5]) != "marks" {
			return false
		}
	}
	for _, f := range l[len(l) : len(l)+3] {
		if f.Tag != 77 || string(f.Bytes) != "mark" {
			return false
		}
	}
	return true
}

func TestFieldsStayAsTheyAre(t *testing.T) {
	wrong := [][]api.Field{tagged(2, 1), tagged(0), tagged(256), rising(65, 1), alone(1, make([]byte, 65536))}
	for i, l := range append(samples(), wrong...) {
		handed := withRoom(l)
		May(handed)
		Put(handed)
		if !same(handed, l) || !roomIsAsItWas(handed) {
			t.Error(i)
		}
	}
}

func TestBytesThatAreNilStayNil(t *testing.T) {
	l := []api.Field{{Tag: 1}, {Tag: 2, Bytes: []byte{}}}
	May(l)
	Put(l)
	if l[0].Bytes != nil || l[1].Bytes == nil {
		t.Error(l)
	}
}

func TestBytesStayAsTheyAre(t *testing.T) {
	whole := otherWay(samples()[7])
	for _, b := range [][]byte{whole, whole[:len(whole)-1], append(bytes.Clone(whole), 1), Number(5), Number(-5), Number(5)[:7], {}} {
		handed := append(bytes.Clone(b), "marks"...)
		Get(handed[:len(b)])
		Of(handed[:len(b)])
		if string(handed) != string(b)+"marks" {
			t.Error(b)
		}
	}
}

// spoil changes all that a list of bytes holds, and has room for.
func spoil(b []byte) {
	b = b[:cap(b)]
	for i := range b {
		b[i] ^= 0xff
	}
}

func spoilFields(l []api.Field) {
	l = l[:cap(l)]
	for i := range l {
		spoil(l[i].Bytes)
		l[i] = api.Field{Tag: 250, Bytes: []byte("spoilt")}
	}
}

func TestBytesThatWerePutAreTheCallers(t *testing.T) {
	for i, l := range samples() {
		handed := copied(l)
		spoil(mustPut(t, handed))
		if !same(handed, l) || !bytes.Equal(mustPut(t, handed), otherWay(l)) {
			t.Error(i)
		}
	}
}

func TestBytesThatWerePutHangNoMoreOnTheFields(t *testing.T) {
	for i, l := range samples() {
		handed := copied(l)
		b := mustPut(t, handed)
		spoilFields(handed)
		if !bytes.Equal(b, otherWay(l)) {
			t.Error(i)
		}
	}
}

func TestFieldsThatWereGotAreTheCallers(t *testing.T) {
	for i, l := range samples() {
		b := otherWay(l)
		spoilFields(mustGet(t, b))
		if !bytes.Equal(b, otherWay(l)) || !same(mustGet(t, b), l) {
			t.Error(i)
		}
	}
}

func TestFieldsThatWereGotHangNoMoreOnTheBytes(t *testing.T) {
	for i, l := range samples() {
		b := otherWay(l)
		got := mustGet(t, b)
		spoil(b)
		if !same(got, l) {
			t.Error(i)
		}
	}
}

func TestFieldsThatWereGotShareNothing(t *testing.T) {
	for i, l := range samples() {
		b := otherWay(l)
		for at := range l {
			got, other := mustGet(t, b), mustGet(t, b)
			spoil(got[at].Bytes)
			got[at].Bytes = l[at].Bytes
			if !same(got, l) || !same(other, l) || !bytes.Equal(b, otherWay(l)) {
				t.Error(i, at)
			}
		}
	}
}

func TestANumbersBytesAreTheCallers(t *testing.T) {
	for _, n := range []int{0, 1, 255, 256, 1 << 40, math.MaxInt64, -1, math.MinInt64} {
		b := Number(n)
		spoil(b)
		if !bytes.Equal(Number(n), binary.BigEndian.AppendUint64(nil, uint64(n))) {
			t.Error(n)
		}
	}
}

func TestWhatWasToldStaysWhenMoreIsTold(t *testing.T) {
	one, other := alone(1, []byte("ab")), alone(2, []byte("cd"))
	put, got, number := mustPut(t, one), mustGet(t, otherWay(one)), Number(1)
	mustPut(t, other)
	mustGet(t, otherWay(other))
	Number(2)
	if !bytes.Equal(put, otherWay(one)) || !same(got, one) || !bytes.Equal(number, unhex("00 00 00 00 00 00 00 01")) {
		t.Error(put, got, number)
	}
}

// P8.4

func TestWhatWasPutIsGotAsItWas(t *testing.T) {
	for i, l := range samples() {
		if got := mustGet(t, mustPut(t, l)); !same(got, l) {
			t.Error(i)
		}
	}
}

func TestWhatWasGotIsPutAsThoseBytes(t *testing.T) {
	for i, l := range samples() {
		b := otherWay(l)
		if got := mustPut(t, mustGet(t, b)); !bytes.Equal(got, b) {
			t.Error(i)
		}
	}
}

// chosenFields makes lists that may be, each other than the one ahead of it.
func chosenFields(seed uint64) func() []api.Field {
	r := rand.New(rand.NewPCG(8, seed))
	return func() []api.Field {
		var l []api.Field
		for tag := r.IntN(8); tag < 255 && len(l) < api.MaxFields; tag += 1 + r.IntN(1+r.IntN(60)) {
			if tag > 0 {
				l = append(l, api.Field{Tag: tag, Bytes: made(r.IntN(1+r.IntN(600)), r.Uint64())})
			}
		}
		return l
	}
}

func TestChosenFieldsThereAndBack(t *testing.T) {
	next := chosenFields(1)
	for i := range 500 {
		l := next()
		takes(t, i, l, otherWay(l))
		if !same(mustGet(t, mustPut(t, l)), l) {
			t.Error(i)
		}
	}
}

func TestBytesWithOneChangedArePutAsTheyWereGotOrRefused(t *testing.T) {
	next, taken, refused := chosenFields(2), 0, 0
	r := rand.New(rand.NewPCG(8, 3))
	for i := range 300 {
		b := otherWay(next())
		for range min(len(b), 50) {
			changed := bytes.Clone(b)
			changed[r.IntN(len(b))] = byte(r.IntN(256))
			l, err := Get(changed)
			if err != nil {
				refusesGet(t, i, changed)
				refused++
				continue
			}
			taken++
			if !May(l) || !bytes.Equal(mustPut(t, l), changed) {
				t.Error(i)
			}
		}
	}
	if taken < 100 || refused < 100 {
		t.Error("the changes tell little", taken, refused)
	}
}

func TestUnlikeFieldsHaveUnlikeBytes(t *testing.T) {
	seen := map[string]int{}
	for i, l := range [][]api.Field{
		nil, tagged(1), tagged(2), tagged(1, 2), alone(1, []byte{0}), alone(1, []byte{0, 0}), alone(1, []byte{2, 0, 0}),
		alone(2, []byte{0}), {{Tag: 1, Bytes: []byte("ab")}, {Tag: 2}}, {{Tag: 1, Bytes: []byte("a")}, {Tag: 2, Bytes: []byte("b")}},
		{{Tag: 1}, {Tag: 2, Bytes: []byte("ab")}}, {{Tag: 1}, {Tag: 3, Bytes: []byte("ab")}}, alone(1, make([]byte, 256)),
	} {
		b := string(mustPut(t, l))
		if at, twice := seen[b]; twice {
			t.Error(at, i)
		}
		seen[b] = i
	}
}

func TestNumbersThereAndBack(t *testing.T) {
	for _, n := range numbers() {
		b := Number(n)
		if n < 0 {
			refusesOf(t, b)
			continue
		}
		got, err := Of(b)
		if err != nil || got != n || !bytes.Equal(Number(got), b) {
			t.Error(n, got, err)
		}
	}
}

func TestNumbersAsFieldsBytes(t *testing.T) {
	l := mustGet(t, mustPut(t, []api.Field{{Tag: 1, Bytes: Number(1 << 40)}, {Tag: 2, Bytes: Number(-1)}}))
	if n, err := Of(l[0].Bytes); err != nil || n != 1<<40 {
		t.Error(n, err)
	}
	refusesOf(t, l[1].Bytes)
}

// P1

func FuzzGet(f *testing.F) {
	for _, l := range samples()[:8] {
		f.Add(otherWay(l))
	}
	f.Fuzz(func(t *testing.T, b []byte) {
		if n, err := Of(b); err == nil && !bytes.Equal(Number(n), b) {
			t.Error(n)
		}
		l, err := Get(b)
		if err != nil {
			refusesGet(t, b, b)
		} else if got, err := Put(l); err != nil || !bytes.Equal(got, b) {
			t.Error(l, err)
		}
	})
}
