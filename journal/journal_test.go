package journal

import (
	"bytes"
	"encoding/binary"
	"math"
	"math/rand/v2"
	"slices"
	"strconv"
	"testing"

	"clapper/api"
	"clapper/flash"
)

const (
	maxFlash  = 1048576
	maxRecord = 2000
)

// paper is a journal by the chapter's words, with a flash's bytes written out.
type paper struct {
	bytes   []byte
	turn    uint64
	end     int
	records [][]byte
	spoilt  bool
}

// read opens bytes as the chapter says.
func read(b []byte) *paper {
	p := &paper{bytes: slices.Clone(b)}
	area, end := b[48:], uint64(0)
	for _, slot := range [][]byte{b[:24], b[24:48]} {
		turn, until := binary.BigEndian.Uint64(slot), binary.BigEndian.Uint64(slot[8:])
		counts := bytes.Equal(slot[:8], slot[16:]) && turn != 0 && turn < 4611686018427387904 && until <= uint64(len(area))
		if counts && turn > p.turn {
			p.turn, end = turn, until
		}
	}
	area = area[:end]
	for len(area) > 2 {
		length := int(binary.BigEndian.Uint16(area))
		if length == 0 || length > 2000 || length > len(area[2:]) {
			break
		}
		p.records = append(p.records, slices.Clone(area[2:2+length]))
		p.end += 2 + length
		area = area[2+length:]
	}
	return p
}

func (p *paper) free() int {
	for many := 2000; many > 0 && !p.spoilt; many-- {
		if 48+p.end+2+many <= len(p.bytes) {
			return many
		}
	}
	return 0
}

// written are the bytes of both steps, and where they go.
func (p *paper) written(r []byte) (record, slot []byte, at int) {
	record = append(binary.BigEndian.AppendUint16(nil, uint16(len(r))), r...)
	for _, x := range []uint64{p.turn + 1, uint64(p.end + len(record)), p.turn + 1} {
		slot = binary.BigEndian.AppendUint64(slot, x)
	}
	if p.turn%2 == 0 { // the next one is odd
		at = 24
	}
	return record, slot, at
}

// put writes the first bytes of each step.
func (p *paper) put(r []byte, ofRecord, ofSlot int) {
	record, slot, at := p.written(r)
	for i := range ofRecord {
		p.bytes[48+p.end+i] = record[i]
	}
	for i := range ofSlot {
		p.bytes[at+i] = slot[i]
	}
}

func (p *paper) append(r []byte) {
	p.put(r, 2+len(r), 24)
	p.turn++
	p.end += 2 + len(r)
	p.records = append(p.records, slices.Clone(r))
}

func (p *paper) tear(r []byte, step, n int) {
	if step == 1 {
		p.put(r, n, 0)
	} else {
		p.put(r, 2+len(r), n)
	}
	p.spoilt = true
}

// made are n bytes that look unlike each other and what is beside them, none
// of them 0, the same in each run.
func made(seed uint64, n int) []byte {
	r := rand.New(rand.NewPCG(16, seed))
	b := make([]byte, n)
	for i := range b {
		b[i] = byte(1 + r.IntN(255))
	}
	return b
}

// laid is a flash's bytes: two slots, and the area behind them.
func laid(slots [6]uint64, area []byte) []byte {
	var b []byte
	for _, x := range slots {
		b = binary.BigEndian.AppendUint64(b, x)
	}
	return append(b, area...)
}

// counting is one whose second slot alone counts, with an end.
func counting(end int, area []byte) []byte {
	return laid([6]uint64{0, 0, 0, 1, uint64(end), 1}, area)
}

// recorded are records, each behind its length.
func recorded(l ...[]byte) []byte {
	var b []byte
	for _, r := range l {
		b = append(binary.BigEndian.AppendUint16(b, uint16(len(r))), r...)
	}
	return b
}

// flashOf is a flash of bytes that may be.
func flashOf(t *testing.T, b []byte) *flash.Flash {
	t.Helper()
	f, err := flash.Of(b)
	if err != nil {
		t.Fatal(len(b), err)
	}
	return f
}

func blank(t *testing.T, size int) *flash.Flash {
	t.Helper()
	return flashOf(t, make([]byte, size))
}

// open is the journal of a flash that has one.
func open(t *testing.T, f *flash.Flash) *Journal {
	t.Helper()
	j, err := Open(f)
	if err != nil || j == nil {
		t.Fatal(f.Size(), err)
	}
	return j
}

func same(a, b [][]byte) bool { return slices.EqualFunc(a, b, bytes.Equal) }

// has holds that a journal tells these records, and so many bytes as free.
func (j *Journal) has(t *testing.T, name any, records [][]byte, free int) {
	t.Helper()
	if told := j.Records(); !same(told, records) {
		t.Error(name, "other records", len(told), len(records))
	}
	if told := j.Free(); told != free {
		t.Error(name, "free", told, free)
	}
}

// isAs holds that a journal, and its flash, are as the paper says.
func (j *Journal) isAs(t *testing.T, name any, f *flash.Flash, p *paper) {
	t.Helper()
	j.has(t, name, p.records, p.free())
	if !bytes.Equal(f.Bytes(), p.bytes) {
		t.Error(name, "other bytes on the flash")
	}
}

// opensAs holds that a flash opened anew is as the chapter says, and stays.
func opensAs(t *testing.T, name any, f *flash.Flash) {
	t.Helper()
	open(t, f).isAs(t, name, f, read(f.Bytes()))
}

// appends holds that a record that may be appended is.
func (j *Journal) appends(t *testing.T, name any, f *flash.Flash, p *paper, r []byte) {
	t.Helper()
	if err := j.Append(r); err != nil {
		t.Error(name, len(r), err)
	}
	p.append(r)
	j.isAs(t, name, f, p)
	opensAs(t, name, f)
}

// tears holds that one that may be torn is, and what that leaves.
func (j *Journal) tears(t *testing.T, name any, f *flash.Flash, p *paper, r []byte, step, n int) {
	t.Helper()
	if err := j.Tear(r, step, n); err != nil {
		t.Error(name, len(r), step, n, err)
	}
	p.tear(r, step, n)
	j.isAs(t, name, f, p)
	j.isSpoilt(t, name, f, p)
	opensAs(t, name, f)
}

// isSpoilt holds that nothing more can be done, and nothing is.
func (j *Journal) isSpoilt(t *testing.T, name any, f *flash.Flash, p *paper) {
	t.Helper()
	for _, r := range [][]byte{{1}, nil, {}, make([]byte, maxRecord), make([]byte, maxRecord+1)} {
		if err := j.Append(r); !is(err, api.ErrState) {
			t.Error(name, len(r), err)
		}
		for step := range 4 {
			for _, n := range []int{-1, 0, 1, 24, 25, maxRecord + 2, math.MinInt, math.MaxInt} {
				if err := j.Tear(r, step, n); !is(err, api.ErrState) {
					t.Error(name, len(r), step, n, err)
				}
			}
		}
	}
	j.isAs(t, name, f, p)
}

func is(err error, code api.Code) bool { return err == error(code) }

// refuses holds that a record is refused, whole and torn, and nothing is done.
func (j *Journal) refuses(t *testing.T, name any, f *flash.Flash, p *paper, r []byte, code api.Code) {
	t.Helper()
	if err := j.Append(r); !is(err, code) {
		t.Error(name, "Append", len(r), err)
	}
	for step := 1; step <= 2; step++ {
		for _, n := range []int{0, 1, 2} {
			if err := j.Tear(r, step, n); !is(err, code) {
				t.Error(name, "Tear", len(r), step, n, err)
			}
		}
	}
	j.isAs(t, name, f, p)
}

// refusesTear holds that a record isn't torn so, and nothing is done.
func (j *Journal) refusesTear(t *testing.T, name any, f *flash.Flash, p *paper, r []byte, step int, code api.Code, many ...int) {
	t.Helper()
	for _, n := range many {
		if err := j.Tear(r, step, n); !is(err, code) {
			t.Error(name, len(r), step, n, err)
		}
	}
	j.isAs(t, name, f, p)
}

// farInts are no steps, and no counts of any bytes.
func farInts() []int {
	l := []int{math.MinInt, math.MinInt + 1, -25, -24, -2, -1, 2003, maxFlash, math.MaxInt - 1, math.MaxInt}
	for bit := 12; bit < 63; bit++ {
		l = append(l, 1<<bit, -1<<bit, 1<<bit+1, 1<<bit+2)
	}
	return l
}

// holds tries all that can be done with the journal of a flash's bytes, each
// on a flash of its own.
func holds(t *testing.T, name any, b []byte) {
	t.Helper()
	f, p := flashOf(t, b), read(b)
	j := open(t, f)
	j.isAs(t, name, f, p)
	opensAs(t, name, f)
	free := p.free()
	if free < maxRecord {
		j.refuses(t, name, f, p, made(1, free+1), api.ErrFull)
		j.refuses(t, name, f, p, made(1, maxRecord), api.ErrFull)
	}
	j.refuses(t, name, f, p, nil, api.ErrArg)
	j.refuses(t, name, f, p, made(1, maxRecord+1), api.ErrArg)
	for _, many := range []int{1, (free + 1) / 2, free} {
		if free == 0 {
			break
		}
		f := flashOf(t, b)
		open(t, f).appends(t, name, f, read(b), made(2, many))
		for _, n := range []int{0, 1, 1 + many, 2 + many} {
			f := flashOf(t, b)
			open(t, f).tears(t, name, f, read(b), made(3, many), 1, n)
		}
		for _, n := range []int{0, 8, 16, 23, 24} {
			f := flashOf(t, b)
			open(t, f).tears(t, name, f, read(b), made(4, many), 2, n)
		}
	}
}

// TestTheExample is of the chapter's table.
func TestTheExample(t *testing.T) {
	open(t, blank(t, 64)).has(t, "all 0", nil, 14)
}

// P16.1: Open

func TestFlashesThatMayNotBe(t *testing.T) {
	if j, err := Open(nil); j != nil || !is(err, api.ErrArg) {
		t.Error("nil", j != nil, err)
	}
	for size := 1; size < 64; size++ {
		for _, b := range [][]byte{make([]byte, size), made(1, size), bytes.Repeat([]byte{0xff}, size)} {
			f := flashOf(t, b)
			if j, err := Open(f); j != nil || !is(err, api.ErrArg) {
				t.Error(size, j != nil, err)
			}
			if !bytes.Equal(f.Bytes(), b) {
				t.Error(size, "it changed")
			}
		}
	}
}

func TestFlashesThatMayBe(t *testing.T) {
	for _, c := range []struct{ size, free int }{
		{64, 14}, {65, 15}, {66, 16}, {100, 50}, {305, 255}, {306, 256}, {2048, 1998}, {2049, 1999}, {2050, 2000}, {2051, 2000}, {4096, 2000},
		{65536, 2000}, {65586, 2000}, {maxFlash - 1, 2000}, {maxFlash, 2000},
	} {
		f := blank(t, c.size)
		open(t, f).has(t, c.size, nil, c.free)
		if !bytes.Equal(f.Bytes(), make([]byte, c.size)) {
			t.Error(c.size, "it changed")
		}
		holds(t, c.size, make([]byte, c.size))
	}
}

func TestEachSizeUpTo400(t *testing.T) {
	for size := 64; size <= 400; size++ {
		open(t, blank(t, size)).has(t, size, nil, size-50)
		open(t, flashOf(t, made(1, size))).has(t, size, nil, size-50) // no slot counts
	}
}

// P16.1: slots

// turns are those at the edges of what counts, and of their bytes.
func turns() []uint64 {
	return []uint64{0, 1, 2, 3, 1<<62 - 2, 1<<62 - 1, 1 << 62, 1<<62 + 1, 1<<63 - 1, 1 << 63, 1<<63 + 1, math.MaxUint64}
}

// ends are those at the edges of an area, and of numbers.
func ends(area uint64) []uint64 {
	return []uint64{
		0, 1, 5, area - 1, area, area + 1, area + 2, 1 << 32, 1<<32 + 5, 1<<62 + 5, 1<<63 - 1, 1 << 63, 1<<63 + 5, math.MaxUint64 - 47, math.MaxUint64,
	}
}

// twoRecords is an area of 16 bytes with records that take 5 and 11 of them.
func twoRecords() []byte { return recorded([]byte("one"), []byte("and more.")) }

func TestOneSlotOfEachTurnAndEnd(t *testing.T) {
	for _, turn := range turns() {
		for _, end := range ends(16) {
			name := strconv.FormatUint(turn, 10) + ", " + strconv.FormatUint(end, 10)
			holds(t, "first: "+name, laid([6]uint64{turn, end, turn, 0, 0, 0}, twoRecords()))
			holds(t, "second: "+name, laid([6]uint64{0, 0, 0, turn, end, turn}, twoRecords()))
		}
	}
}

func TestTwoSlotsOfEachTurnAndEnd(t *testing.T) {
	for _, first := range turns() {
		for _, second := range turns() {
			for _, end := range ends(16) {
				for _, other := range []uint64{0, 5, 16, 17} {
					b := laid([6]uint64{first, end, first, second, other, second}, twoRecords())
					f := flashOf(t, b)
					open(t, f).isAs(t, []uint64{first, end, second, other}, f, read(b))
					b = laid([6]uint64{first, other, first, second, end, second}, twoRecords())
					f = flashOf(t, b)
					open(t, f).isAs(t, []uint64{first, other, second, end}, f, read(b))
				}
			}
		}
	}
}

// TestWhichSlotCounts is written out, and asks no paper.
func TestWhichSlotCounts(t *testing.T) {
	const most = 1<<62 - 1
	one, two := [][]byte{[]byte("one")}, [][]byte{[]byte("one"), []byte("and more.")}
	for name, c := range map[string]struct {
		slots   [6]uint64
		records [][]byte
		free    int
	}{
		"none":                          {[6]uint64{}, nil, 14},
		"the first one":                 {[6]uint64{1, 5, 1, 0, 0, 0}, one, 9},
		"the second one":                {[6]uint64{0, 0, 0, 2, 5, 2}, one, 9},
		"both, the first one's":         {[6]uint64{9, 5, 9, 8, 16, 8}, one, 9},
		"both, the second one's":        {[6]uint64{8, 16, 8, 9, 5, 9}, one, 9},
		"both, the first one's, all":    {[6]uint64{9, 16, 9, 8, 5, 8}, two, 0},
		"both, the second one's, all":   {[6]uint64{8, 5, 8, 9, 16, 9}, two, 0},
		"alike":                         {[6]uint64{7, 5, 7, 7, 16, 7}, one, 9},
		"alike, all":                    {[6]uint64{7, 16, 7, 7, 5, 7}, two, 0},
		"alike, nothing":                {[6]uint64{7, 0, 7, 7, 16, 7}, nil, 14},
		"the greater one has no area":   {[6]uint64{9, 17, 9, 8, 5, 8}, one, 9},
		"so has the second one":         {[6]uint64{8, 5, 8, 9, 17, 9}, one, 9},
		"none has":                      {[6]uint64{8, 17, 8, 9, 17, 9}, nil, 14},
		"the greatest turn":             {[6]uint64{most, 5, most, 8, 16, 8}, one, 9},
		"one above it":                  {[6]uint64{most + 1, 5, most + 1, 8, 16, 8}, two, 0},
		"turn 0":                        {[6]uint64{0, 16, 0, 0, 16, 0}, nil, 14},
		"the highest bit of a turn":     {[6]uint64{1<<63 | 9, 16, 1<<63 | 9, 8, 5, 8}, one, 9},
		"the highest bit of an end":     {[6]uint64{9, 1<<63 | 16, 9, 8, 5, 8}, one, 9},
		"all bits of an end":            {[6]uint64{9, math.MaxUint64, 9, 8, 5, 8}, one, 9},
		"all bits of a turn":            {[6]uint64{math.MaxUint64, 16, math.MaxUint64, 8, 5, 8}, one, 9},
		"turns unlike":                  {[6]uint64{9, 16, 8, 8, 5, 8}, one, 9},
		"turns unlike, the other way":   {[6]uint64{8, 5, 8, 9, 16, 10}, one, 9},
		"turns unlike by a high bit":    {[6]uint64{9, 16, 1<<61 | 9, 8, 5, 8}, one, 9},
		"a turn above one of many bits": {[6]uint64{256, 5, 256, 255, 16, 255}, one, 9},
	} {
		b := laid(c.slots, twoRecords())
		f := flashOf(t, b)
		open(t, f).has(t, name, c.records, c.free)
		if !bytes.Equal(f.Bytes(), b) {
			t.Error(name, "it changed")
		}
		holds(t, name, b)
	}
}

func TestTurnsUnlikeInEachOfTheirBytes(t *testing.T) {
	const turn, older = 0x1122334455667788, 0x1122334455667787
	both := [6]uint64{turn, 16, turn, older, 5, older}
	swapped := [6]uint64{older, 5, older, turn, 16, turn}
	open(t, flashOf(t, laid(both, twoRecords()))).has(t, "alike", [][]byte{[]byte("one"), []byte("and more.")}, 0)
	for i := range 24 {
		if i >= 8 && i < 16 {
			continue
		}
		for change := 1; change < 256; change++ {
			for at, slots := range map[int][6]uint64{0: both, 24: swapped} {
				b := laid(slots, twoRecords())
				b[at+i] ^= byte(change)
				open(t, flashOf(t, b)).has(t, []int{at, i, change}, [][]byte{[]byte("one")}, 9)
			}
		}
	}
}

func TestEachByteOfAnEnd(t *testing.T) {
	for i := range 8 {
		for change := range 256 {
			for _, slots := range [][6]uint64{{9, 16, 9, 8, 5, 8}, {8, 5, 8, 9, 16, 9}, {9, 0, 9}, {0, 0, 0, 9, 16, 9}} {
				for _, at := range []int{8, 32} {
					b := laid(slots, twoRecords())
					b[at+i] ^= byte(change)
					f := flashOf(t, b)
					open(t, f).isAs(t, []int{at, i, change}, f, read(b))
				}
			}
		}
	}
}

func TestEndsInALargeArea(t *testing.T) {
	for _, area := range []int{255, 256, 257, 65535, 65536, 65537, maxFlash - 48} {
		var l [][]byte
		for left := area; left > 2; {
			r := made(uint64(left), min(maxRecord, left-2))
			l, left = append(l, r), left-2-len(r)
		}
		b := recorded(l...)
		b = append(b, make([]byte, area-len(b))...)
		for _, end := range []int{0, area / 2, area - 1, area, area + 1, area + 65536, 1 << 32} {
			f := flashOf(t, counting(end, b))
			open(t, f).isAs(t, []int{area, end}, f, read(f.Bytes()))
			opensAs(t, []int{area, end}, f)
		}
	}
}

// P16.1: the area

// TestWhereTheEndIs is of areas in which a record doesn't stand, or not whole.
func TestWhereTheEndIs(t *testing.T) {
	short, long := []byte("first"), made(5, maxRecord)
	good := recorded([]byte("good"), []byte("ones"))
	for name, c := range map[string]struct {
		area    []byte
		behind  int // so many of its bytes are behind the slot's end
		records [][]byte
		stands  int // where the next one goes
	}{
		"no bytes":                        {recorded(short), 7, nil, 0},
		"one byte of a length":            {recorded(short), 6, nil, 0},
		"a length alone":                  {recorded(short), 5, nil, 0},
		"all but a byte":                  {recorded(short), 1, nil, 0},
		"just whole":                      {recorded(short), 0, [][]byte{short}, 7},
		"one byte of the next length":     {recorded(short, short), 6, [][]byte{short}, 7},
		"the next length alone":           {recorded(short, short), 5, [][]byte{short}, 7},
		"the next one, all but a byte":    {recorded(short, short), 1, [][]byte{short}, 7},
		"both just whole":                 {recorded(short, short), 0, [][]byte{short, short}, 14},
		"a length of 0":                   {slices.Concat([]byte{0, 0}, good), 0, nil, 0},
		"a length of 0 behind one":        {slices.Concat(recorded(short), []byte{0, 0}, good), 0, [][]byte{short}, 7},
		"only lengths of 0":               {make([]byte, 100), 0, nil, 0},
		"a length of 1":                   {slices.Concat([]byte{0, 1, 9}, good), 0, [][]byte{{9}, []byte("good"), []byte("ones")}, 15},
		"a length of 256":                 {slices.Concat(recorded(long[:256]), good), 0, [][]byte{long[:256], []byte("good"), []byte("ones")}, 270},
		"a length of 2000":                {slices.Concat(recorded(long), good), 0, [][]byte{long, []byte("good"), []byte("ones")}, 2014},
		"a length of 2000, just":          {recorded(long), 0, [][]byte{long}, 2002},
		"a length of 2000, but a byte":    {recorded(long), 1, nil, 0},
		"a length of 2001":                {slices.Concat([]byte{7, 0xd1}, made(6, 2001), good), 0, nil, 0},
		"a length of 2001 behind one":     {slices.Concat(recorded(short), []byte{7, 0xd1}, made(6, 2001), good), 0, [][]byte{short}, 7},
		"a length of 2048":                {slices.Concat([]byte{8, 0}, made(6, 2048), good), 0, nil, 0},
		"a length of 65535":               {slices.Concat([]byte{255, 255}, made(6, 65535), good), 0, nil, 0},
		"a length of 65535, not whole":    {slices.Concat([]byte{255, 255}, good), 0, nil, 0},
		"just at the end":                 {slices.Concat([]byte{0, 12}, good), 0, [][]byte{good}, 14},
		"one behind the end":              {slices.Concat([]byte{0, 15}, good), 0, nil, 0},
		"far behind the end":              {slices.Concat([]byte{7, 0xd0}, good), 0, nil, 0},
		"one behind the end, on the area": {slices.Concat(recorded(short), []byte{0, 6}, made(7, 40)), 35, [][]byte{short}, 7},
		"far behind it, on the area":      {slices.Concat(recorded(short), []byte{7, 0xd0}, made(7, 2000), good), 1980, [][]byte{short}, 7},
		"good ones behind the end":        {slices.Concat(good, good), 12, [][]byte{[]byte("good"), []byte("ones")}, 12},
		"an end in the midst of one":      {slices.Concat(good, good), 9, [][]byte{[]byte("good"), []byte("ones")}, 12},
	} {
		area := slices.Concat(c.area, make([]byte, max(0, 16-len(c.area))))
		b := counting(len(c.area)-c.behind, area)
		free := max(0, min(maxRecord, len(area)-c.stands-2))
		open(t, flashOf(t, b)).has(t, name, c.records, free)
		holds(t, name, b)
		if free > 0 {
			nextStands(t, name, b, c.stands, c.records)
		}
	}
}

// nextStands holds that the next record goes to a place of the area, and that
// what stood behind it is no record then.
func nextStands(t *testing.T, name string, b []byte, at int, records [][]byte) {
	t.Helper()
	f := flashOf(t, b)
	if err := open(t, f).Append([]byte{0xee}); err != nil {
		t.Error(name, err)
	}
	want := slices.Concat(b[48:48+at], []byte{0, 1, 0xee}, b[48+at+3:])
	if !bytes.Equal(f.Bytes()[48:], want) {
		t.Error(name, "it stands elsewhere")
	}
	free := max(0, min(maxRecord, len(b)-48-at-5))
	open(t, f).has(t, name, append(records, []byte{0xee}), free)
}

func TestEachLength(t *testing.T) {
	area := make([]byte, 70000)
	for length := range 65536 {
		binary.BigEndian.PutUint16(area, uint16(length))
		if length > 2200 && length%257 > 2 { // all of them take long
			continue
		}
		j := open(t, flashOf(t, counting(len(area), area)))
		if length < 1 || length > 2000 {
			j.has(t, length, nil, maxRecord)
			continue
		}
		j.has(t, length, [][]byte{area[2 : 2+length]}, maxRecord)
	}
}

func TestEachEndOfAnArea(t *testing.T) {
	area := recorded([]byte("a"), []byte("bc"), made(1, 30), []byte("d"), made(2, 9))
	for end := range len(area) + 3 {
		holds(t, end, counting(end, area))
		holds(t, end, laid([6]uint64{6, uint64(end), 6, 5, 3, 5}, area))
	}
}

func TestAreasOfAnyBytes(t *testing.T) {
	r := rand.New(rand.NewPCG(16, 16))
	for run := range 4000 {
		area := make([]byte, 16+r.IntN(80))
		for i := range area {
			if r.IntN(2) == 0 {
				area[i] = byte(r.IntN(6))
			}
		}
		var slots [6]uint64
		for at := 0; at < 6; at += 3 {
			slots[at] = turns()[r.IntN(len(turns()))]
			slots[at+1], slots[at+2] = uint64(r.IntN(len(area)+2)), slots[at]
			if r.IntN(8) == 0 {
				slots[at+2]++
			}
		}
		b := laid(slots, area)
		f := flashOf(t, b)
		open(t, f).isAs(t, run, f, read(b))
		if run%10 == 0 {
			holds(t, run, b)
		}
	}
}

func TestFlashesOfOneByteAllOver(t *testing.T) {
	for one := range 256 {
		for _, size := range []int{64, 65, 2050, 5000} {
			b := bytes.Repeat([]byte{byte(one)}, size)
			f := flashOf(t, b)
			open(t, f).isAs(t, []int{one, size}, f, read(b))
		}
	}
}

// P16.2: Append

// TestTheFlashBehindEachAppend is written out, and asks no paper.
func TestTheFlashBehindEachAppend(t *testing.T) {
	f := blank(t, 64)
	j := open(t, f)
	for _, c := range []struct {
		r     string
		slots [6]uint64
		area  string
		free  int
	}{
		{"ab", [6]uint64{0, 0, 0, 1, 4, 1}, "\x00\x02ab", 10},
		{"c", [6]uint64{2, 7, 2, 1, 4, 1}, "\x00\x02ab\x00\x01c", 7},
		{"\x00", [6]uint64{2, 7, 2, 3, 10, 3}, "\x00\x02ab\x00\x01c\x00\x01\x00", 4},
		{"defg", [6]uint64{4, 16, 4, 3, 10, 3}, "\x00\x02ab\x00\x01c\x00\x01\x00\x00\x04defg", 0},
	} {
		if err := j.Append([]byte(c.r)); err != nil {
			t.Error(c.r, err)
		}
		area := append([]byte(c.area), make([]byte, 16-len(c.area))...)
		if !bytes.Equal(f.Bytes(), laid(c.slots, area)) {
			t.Error(c.r, f.Bytes())
		}
		if j.Free() != c.free {
			t.Error(c.r, j.Free())
		}
	}
	j.has(t, "all", [][]byte{[]byte("ab"), []byte("c"), {0}, []byte("defg")}, 0)
	open(t, f).has(t, "opened again", [][]byte{[]byte("ab"), []byte("c"), {0}, []byte("defg")}, 0)
}

func TestOtherPlacesStay(t *testing.T) {
	for _, size := range []int{64, 65, 300, 2049, 2050, 2051, 9000} {
		b := made(8, size) // no slot counts, nothing is 0
		f, p := flashOf(t, b), read(b)
		j := open(t, f)
		for run := 0; p.free() > 0 && run < 12; run++ {
			j.appends(t, []int{size, run}, f, p, made(uint64(run), 1+min(run*run, p.free()-1)))
		}
		if f.Size() != size {
			t.Error(size, f.Size())
		}
		if used := 48 + p.end; !bytes.Equal(f.Bytes()[used:], b[used:]) {
			t.Error(size, "behind the records")
		}
	}
}

func TestRecordsThatMayNotBe(t *testing.T) {
	for _, size := range []int{64, 2049, 2050, 2052, 9000} {
		for _, b := range [][]byte{make([]byte, size), counting(7, append(recorded([]byte("first")), make([]byte, size-55)...))} {
			f := flashOf(t, b)
			j, p := open(t, f), read(b)
			for _, r := range [][]byte{nil, {}, made(1, 9)[:0], made(1, 2001), make([]byte, 2002), made(1, 65536+5), make([]byte, maxFlash)} {
				j.refuses(t, size, f, p, r, api.ErrArg)
			}
			j.appends(t, size, f, p, []byte("may"))
		}
	}
}

func TestEachLengthThatIsAppended(t *testing.T) {
	for many := 1; many <= maxRecord; many++ {
		f := blank(t, 48+2+max(14, many))
		j, p := open(t, f), read(f.Bytes())
		if many >= 14 && many < maxRecord {
			j.refuses(t, many, f, p, made(1, many+1), api.ErrFull)
		}
		j.appends(t, many, f, p, made(1, many))
	}
}

func TestJustFreeBytesAndOneMore(t *testing.T) {
	for _, used := range []int{1, 2, 9, 500, 2000} {
		for _, left := range []int{0, 1, 2, 3, 4, 13, 14, 15, 254, 255, 256, 257, 258, 1999, 2000, 2001, 2002, 2003, 2004, 2005, 4004, 9999} {
			if used+2+left < 16 {
				continue
			}
			b := counting(used+2, append(recorded(made(1, used)), make([]byte, left)...))
			free := max(0, min(2000, left-2))
			f := flashOf(t, b)
			j, p := open(t, f), read(b)
			j.has(t, []int{used, left}, [][]byte{made(1, used)}, free)
			if free == 2000 {
				j.refuses(t, []int{used, left}, f, p, made(2, 2001), api.ErrArg)
			} else {
				j.refuses(t, []int{used, left}, f, p, made(2, free+1), api.ErrFull)
			}
			if free > 0 {
				j.appends(t, []int{used, left}, f, p, made(2, free))
			}
		}
	}
}

// TestFilledToItsLastByte is of records that leave no byte, and of such that
// leave one or two, in which none has room.
func TestFilledToItsLastByte(t *testing.T) {
	for size := 64; size < 120; size++ {
		for many := 1; many <= 20; many++ {
			f := blank(t, size)
			j, p := open(t, f), read(f.Bytes())
			for p.free() >= many {
				j.appends(t, []int{size, many}, f, p, made(uint64(p.end), many))
			}
			for p.free() > 0 {
				j.appends(t, []int{size, many}, f, p, made(9, p.free()))
			}
			j.refuses(t, []int{size, many}, f, p, []byte{1}, api.ErrFull)
			j.refuses(t, []int{size, many}, f, p, made(1, maxRecord), api.ErrFull)
			opensAs(t, []int{size, many}, f)
		}
	}
}

func TestTheGreatestFlashFilled(t *testing.T) {
	f, err := flash.New(maxFlash)
	if err != nil {
		t.Fatal(err)
	}
	j := open(t, f)
	var want [][]byte
	for run := range 523 {
		want = append(want, made(uint64(run), maxRecord))
		if err := j.Append(want[run]); err != nil || j.Free() != min(2000, maxFlash-48-2002*(run+1)-2) {
			t.Fatal(run, err, j.Free())
		}
	}
	if err := j.Append(made(1, 1481)); !is(err, api.ErrFull) {
		t.Error(err)
	}
	want = append(want, made(1, 1480))
	if err := j.Append(want[523]); err != nil {
		t.Error(err)
	}
	j.has(t, "full", want, 0)
	open(t, f).has(t, "full, opened again", want, 0)
	opensAs(t, "full", f)
	if err := j.Append([]byte{1}); !is(err, api.ErrFull) {
		t.Error(err)
	}
}

func TestManySmallRecords(t *testing.T) {
	f := blank(t, maxFlash)
	j := open(t, f)
	many := 0
	for ; j.Free() > 0; many++ {
		if err := j.Append([]byte{byte(many >> 8)}); err != nil {
			t.Fatal(many, err)
		}
	}
	if many != (maxFlash-48)/3 || len(j.Records()) != many || len(open(t, f).Records()) != many {
		t.Error(many, len(j.Records()))
	}
	opensAs(t, "many", f)
}

// P16.2: errors

// TestErrorsOneByOneAndTogether has the promise's order: spoilt, a record that
// may not be, no room, and then a step or a count that may not be.
func TestErrorsOneByOneAndTogether(t *testing.T) {
	room := []byte("that fits")
	for _, c := range []struct {
		name    string
		r       []byte
		step, n int
		code    api.Code
	}{
		{"no bytes", nil, 1, 0, api.ErrArg},
		{"too many", made(1, 2001), 1, 0, api.ErrArg}, // there's no room, too
		{"no room", made(1, 15), 1, 0, api.ErrFull},
		{"no room for the greatest", made(1, 2000), 2, 0, api.ErrFull},
		{"step 0", room, 0, 0, api.ErrArg},
		{"step 3", room, 3, 0, api.ErrArg},
		{"step -1", room, -1, 0, api.ErrArg},
		{"count -1", room, 1, -1, api.ErrArg},
		{"count -1 of the slot", room, 2, -1, api.ErrArg},
		{"count above the record", room, 1, 12, api.ErrArg},
		{"count above the slot", room, 2, 25, api.ErrArg},
		{"no bytes, step 3", nil, 3, 0, api.ErrArg},
		{"no bytes, count -1", nil, 1, -1, api.ErrArg},
		{"too many, step 3", made(1, 2001), 3, 0, api.ErrArg},
		{"too many, count -1", made(1, 2001), 1, -1, api.ErrArg},
		{"no room, step 0", made(1, 15), 0, 0, api.ErrFull},
		{"no room, step 3", made(1, 15), 3, 0, api.ErrFull},
		{"no room, count -1", made(1, 15), 1, -1, api.ErrFull},
		{"no room, count above", made(1, 15), 1, 18, api.ErrFull},
		{"no room, count above the slot", made(1, 15), 2, 25, api.ErrFull},
		{"no room, step 3, count -1", made(1, 15), 3, -1, api.ErrFull},
		{"step 3, count -1", room, 3, -1, api.ErrArg},
		{"step 0, count above", room, 0, 99, api.ErrArg},
	} {
		f := blank(t, 64)
		j, p := open(t, f), read(f.Bytes())
		j.refusesTear(t, c.name, f, p, c.r, c.step, c.code, c.n)
		j.appends(t, c.name+", behind it", f, p, []byte("ok"))
		j.tears(t, c.name+", spoilt", f, p, []byte("x"), 1, 2)
		j.refusesTear(t, c.name+", spoilt", f, p, c.r, c.step, api.ErrState, c.n)
	}
}

func TestAnErrorSpoilsNothing(t *testing.T) {
	f := blank(t, 64)
	j, p := open(t, f), read(f.Bytes())
	j.refuses(t, "no bytes", f, p, nil, api.ErrArg)
	j.refuses(t, "no room", f, p, made(1, 15), api.ErrFull)
	j.refusesTear(t, "step", f, p, []byte("x"), 3, api.ErrArg, 0)
	j.refusesTear(t, "count", f, p, []byte("x"), 2, api.ErrArg, 25)
	j.appends(t, "behind them", f, p, made(1, 14))
	j.refuses(t, "full", f, p, []byte{1}, api.ErrFull)
	j.isAs(t, "full", f, p)
}

// P16.2: Tear

func TestStepsThatAreNone(t *testing.T) {
	f := blank(t, 100)
	j, p := open(t, f), read(f.Bytes())
	for _, step := range append(farInts(), 0, 3, 4, 5) {
		j.refusesTear(t, step, f, p, []byte("abc"), step, api.ErrArg, -1, 0, 1, 5, 6, 24, 25, math.MinInt, math.MaxInt)
	}
	j.tears(t, "step 2", f, p, []byte("abc"), 2, 3)
}

func TestCountsThatMayNotBe(t *testing.T) {
	for _, many := range []int{1, 2, 21, 22, 23, 500, 1999, 2000} {
		f := blank(t, 48+2+2000)
		j, p := open(t, f), read(f.Bytes())
		r := made(1, many)
		j.refusesTear(t, many, f, p, r, 1, api.ErrArg, append(farInts(), -1, many+3, many+4, 2*many+5)...)
		j.refusesTear(t, many, f, p, r, 2, api.ErrArg, append(farInts(), -1, 25, 26, 48)...)
		if many > 24 { // the record's bytes are too many for a slot
			j.refusesTear(t, many, f, p, r, 2, api.ErrArg, many, many+2)
		}
		j.tears(t, many, f, p, r, 1, many+2)
	}
}

func TestEachCountOfTheFirstStep(t *testing.T) {
	for _, many := range []int{1, 2, 5, 24, 255, 256, 300} {
		for n := range 2 + many + 1 {
			f := blank(t, 48+2+2+2+300)
			j, p := open(t, f), read(f.Bytes())
			j.appends(t, n, f, p, []byte("on"))
			ahead := f.Bytes()
			j.tears(t, n, f, p, made(1, many), 1, n)
			want := slices.Concat(ahead[:52], recorded(made(1, many))[:n], ahead[52+n:])
			if !bytes.Equal(f.Bytes(), want) {
				t.Error(many, n, "other bytes")
			}
			open(t, f).has(t, n, [][]byte{[]byte("on")}, 300)
		}
	}
}

func TestEachCountOfTheGreatestRecord(t *testing.T) {
	r := made(1, maxRecord)
	for n := range maxRecord + 3 {
		f := blank(t, 48+2+2000)
		if err := open(t, f).Tear(r, 1, n); err != nil {
			t.Error(n, err)
		}
		if b := f.Bytes(); !bytes.Equal(b[:48], make([]byte, 48)) || !bytes.Equal(b[48:48+n], recorded(r)[:n]) || !bytes.Equal(b[48+n:], make([]byte, 2002-n)) {
			t.Error(n, "other bytes")
		}
		open(t, f).has(t, n, nil, 2000)
	}
}

func TestEachCountOfTheSecondStep(t *testing.T) {
	for _, records := range []int{0, 1, 2, 3, 8} {
		for n := range 25 {
			f := blank(t, 100)
			j, p := open(t, f), read(f.Bytes())
			for range records {
				j.appends(t, n, f, p, []byte("on"))
			}
			want, ahead := p.records, p.free()
			j.tears(t, n, f, p, []byte("more"), 2, n)
			if n == 24 {
				want, ahead = append(want, []byte("more")), ahead-6
			}
			k := open(t, f)
			k.has(t, []int{records, n}, want, ahead)
			q := read(f.Bytes())
			k.appends(t, []int{records, n}, f, q, []byte("then"))
			open(t, f).has(t, []int{records, n}, append(want, []byte("then")), ahead-6)
		}
	}
}

// TestASlotThatIsCutOffBehindAnOlderOne has turns whose bytes carry on, so
// that each byte of the turns, the first or the second, may be cut.
func TestASlotThatIsCutOffBehindAnOlderOne(t *testing.T) {
	for _, turn := range carrying() {
		slots := [6]uint64{turn, 12, turn, turn - 1, 5, turn - 1}
		if turn%2 == 1 {
			slots = [6]uint64{turn - 1, 5, turn - 1, turn, 12, turn}
		}
		area := append(recorded([]byte("one"), []byte("and m")), make([]byte, 300)...)
		ahead := [][]byte{[]byte("one"), []byte("and m")}
		for n := range 25 {
			f := flashOf(t, laid(slots, area))
			j, p := open(t, f), read(f.Bytes())
			j.has(t, turn, ahead, 298)
			j.tears(t, []uint64{turn, uint64(n)}, f, p, []byte("cut off"), 2, n)
			j.has(t, turn, ahead, 0)
			want := ahead
			if n == 24 {
				want = append(slices.Clone(ahead), []byte("cut off"))
			}
			open(t, f).has(t, []uint64{turn, uint64(n)}, want, 298-9*(len(want)-2))
			q := read(f.Bytes())
			open(t, f).appends(t, []uint64{turn, uint64(n)}, f, q, []byte("then"))
			open(t, f).has(t, turn, append(slices.Clone(want), []byte("then")), 292-9*(len(want)-2))
		}
	}
}

// carrying are turns beside those at which a byte carries, each of which
// counts, and the next two.
func carrying() []uint64 {
	l := []uint64{2, 3, 4, 1<<62 - 4, 1<<62 - 3}
	for bit := 8; bit < 62; bit += 8 {
		for back := range uint64(5) {
			l = append(l, 1<<bit-3+back)
		}
	}
	return l
}

// TestTheGreatestTurn is of the one behind which none counts: the record is
// there till the flash is opened again.
func TestTheGreatestTurn(t *testing.T) {
	const most = 1<<62 - 1
	area := append(recorded([]byte("one")), make([]byte, 40)...)
	for name, slots := range map[string][6]uint64{
		"in its slot":         {most - 1, 0, most - 1, most, 5, most},
		"alone":               {0, 0, 0, most, 5, most},
		"in the other slot":   {most, 5, most, most - 1, 0, most - 1},
		"alone, in the other": {most, 5, most, 0, 0, 0},
	} {
		f := flashOf(t, laid(slots, area))
		j, p := open(t, f), read(f.Bytes())
		j.appends(t, name, f, p, []byte("two"))
		j.has(t, name, [][]byte{[]byte("one"), []byte("two")}, 33)
		if b := f.Bytes(); binary.BigEndian.Uint64(b) != 1<<62 || binary.BigEndian.Uint64(b[8:]) != 10 || binary.BigEndian.Uint64(b[16:]) != 1<<62 {
			t.Error(name, b[:24])
		}
		j.appends(t, name, f, p, []byte("three"))
		j.tears(t, name, f, p, []byte("four"), 2, 24)
		j.has(t, name, [][]byte{[]byte("one"), []byte("two"), []byte("three")}, 0)
	}
}

func TestATornJournalStaysSpoilt(t *testing.T) {
	for step := 1; step <= 2; step++ {
		for n := range 6 {
			f := blank(t, 100)
			j, p := open(t, f), read(f.Bytes())
			j.appends(t, n, f, p, []byte("one"))
			j.tears(t, n, f, p, []byte("four"), step, n)
			for range 3 {
				j.isSpoilt(t, n, f, p)
			}
		}
	}
}

// TestASpoiltJournalTellsWhatWasThere is of what others do to its flash then.
func TestASpoiltJournalTellsWhatWasThere(t *testing.T) {
	want := [][]byte{[]byte("one"), []byte("two")}
	f := blank(t, 200)
	j, p := open(t, f), read(f.Bytes())
	j.appends(t, "one", f, p, want[0])
	j.appends(t, "two", f, p, want[1])
	j.tears(t, "torn", f, p, []byte("three"), 2, 24)
	for run := range 5 {
		if err := open(t, f).Append(made(uint64(run), 20)); err != nil {
			t.Error(run, err)
		}
		j.has(t, run, want, 0)
	}
	f.Write(0, make([]byte, 200))
	j.has(t, "all 0", want, 0)
	f.Write(0, bytes.Repeat([]byte{0xff}, 200))
	j.has(t, "all 1", want, 0)
	if err := j.Append([]byte{1}); !is(err, api.ErrState) {
		t.Error(err)
	}
	if !bytes.Equal(f.Bytes(), bytes.Repeat([]byte{0xff}, 200)) {
		t.Error("it wrote")
	}
}

// P16.3

func TestWhatIsHandedInStays(t *testing.T) {
	memory := made(1, 30)
	r := memory[10:15]
	f := blank(t, 100)
	j := open(t, f)
	for range 4 {
		if err := j.Append(r); err != nil {
			t.Error(err)
		}
	}
	j.Append(memory[:0])
	j.Tear(r, 3, 0)
	j.Tear(r, 1, 8)
	j.Records()
	open(t, f).Tear(r, 2, 24)
	if !bytes.Equal(memory, made(1, 30)) {
		t.Error(memory)
	}
}

func TestWhatIsHandedInIsNotKept(t *testing.T) {
	want := [][]byte{made(1, 5), made(2, 5), made(3, 5)}
	f := blank(t, 100)
	j := open(t, f)
	one := make([]byte, 5)
	for i, r := range want {
		copy(one, r)
		if err := j.Append(one); err != nil {
			t.Error(i, err)
		}
		clear(one)
		j.has(t, i, want[:i+1], 50-7*(i+1))
		open(t, f).has(t, i, want[:i+1], 50-7*(i+1))
	}
	copy(one, made(4, 5))
	if err := j.Tear(one, 2, 24); err != nil {
		t.Error(err)
	}
	clear(one)
	j.has(t, "torn", want, 0)
	open(t, f).has(t, "torn", append(want, made(4, 5)), 22)
}

// spoil changes all memory of what was told, and behind it.
func spoil(l [][]byte) {
	for i := range l {
		_ = append(l[i], made(9, 40)...)
		clear(l[i])
		clear(l[i][:cap(l[i])])
		l[i] = made(8, 3)
	}
	clear(l)
	_ = append(l, made(8, 3), made(8, 4))
}

func TestRecordsThatWereToldAreTheCallers(t *testing.T) {
	want := [][]byte{made(1, 5), made(2, 1), made(3, 20)}
	for name, after := range map[string]func(j *Journal){
		"open":      func(j *Journal) {},
		"spoilt":    func(j *Journal) { j.Tear([]byte("x"), 1, 1) },
		"spoilt, 2": func(j *Journal) { j.Tear([]byte("x"), 2, 24) },
	} {
		f := blank(t, 200)
		j := open(t, f)
		for _, r := range want {
			j.Append(r)
		}
		after(j)
		free, b := j.Free(), f.Bytes()
		kept, other := j.Records(), j.Records()
		spoil(other)
		j.has(t, name, want, free)
		for i := range kept { // no two of one answer share any
			_ = append(kept[i], made(9, 40)...)
			clear(kept[i])
			kept[i] = want[i]
			if !same(kept, want) {
				t.Error(name, i, "they share memory")
			}
		}
		j.has(t, name, want, free)
		if !bytes.Equal(f.Bytes(), b) {
			t.Error(name, "the flash changed")
		}
	}
}

func TestWhatWasToldStaysWhenMoreIsAppended(t *testing.T) {
	f := blank(t, 400)
	j := open(t, f)
	var told [][][]byte
	var want [][]byte
	for i := range 20 {
		told = append(told, j.Records())
		want = append(want, made(uint64(i), 1+i%7))
		if err := j.Append(want[i]); err != nil {
			t.Error(i, err)
		}
	}
	told = append(told, j.Records())
	j.Tear([]byte("x"), 2, 24)
	f.Write(0, make([]byte, 400))
	for i, l := range told {
		if !same(l, want[:i]) {
			t.Error(i, "it changed")
		}
	}
}

func TestAskingChangesNothing(t *testing.T) {
	for name, b := range map[string][]byte{
		"blank":   make([]byte, 100),
		"any":     made(1, 100),
		"cut off": counting(14, slices.Concat(recorded([]byte("one")), made(2, 40))),
	} {
		f := flashOf(t, b)
		for range 3 {
			j := open(t, f)
			for range 3 {
				j.isAs(t, name, f, read(b))
			}
		}
	}
}

// P16.4

func TestOpenedTwiceItIsAsOpenedOnce(t *testing.T) {
	for step := 1; step <= 2; step++ {
		for n := range 25 {
			f := blank(t, 200)
			open(t, f).Append([]byte("one"))
			open(t, f).Append([]byte("two"))
			open(t, f).Tear(made(1, 30), step, n)
			b := f.Bytes()
			once := open(t, f)
			twice, p := open(t, f), read(b)
			once.isAs(t, n, f, p)
			twice.isAs(t, n, f, p)
			twice.appends(t, n, f, p, []byte("three"))
			other := flashOf(t, b)
			open(t, other).Append([]byte("three"))
			if !bytes.Equal(other.Bytes(), f.Bytes()) {
				t.Error(step, n, "opened once it is another")
			}
		}
	}
}

// TestTwoJournalsOfOneFlash has both go on: what was appended by one is there
// for the other, as if it was opened once.
func TestTwoJournalsOfOneFlash(t *testing.T) {
	f, alone := blank(t, 300), blank(t, 300)
	one, two, single := open(t, f), open(t, f), open(t, alone)
	for run := range 30 {
		j := one
		if run%3 == 1 || run%7 == 2 {
			j = two
		}
		r := made(uint64(run), 1+run%5)
		if err := j.Append(r); err != nil {
			t.Error(run, err)
		}
		single.Append(r)
		p := read(alone.Bytes())
		if len(p.records) != run+1 {
			t.Fatal(run, len(p.records))
		}
		if run%2 == 0 { // or it is asked for nothing ahead of the next one
			one.isAs(t, run, f, p)
			two.isAs(t, run, f, p)
		}
		opensAs(t, run, f)
	}
}

func TestAJournalBesideOneThatIsSpoilt(t *testing.T) {
	for step := 1; step <= 2; step++ {
		for n := range 25 {
			f := blank(t, 300)
			one, two := open(t, f), open(t, f)
			one.Append([]byte("one"))
			if err := one.Tear(made(1, 40), step, n); err != nil {
				t.Error(step, n, err)
			}
			want := [][]byte{[]byte("one")}
			one.has(t, n, want, 0)
			free := 300 - 48 - 5 - 5 - 2
			if step == 2 && n == 24 {
				want = append(want, made(1, 40))
				free -= 42
			}
			if err := two.Append([]byte("two")); err != nil {
				t.Error(step, n, err)
			}
			want = append(want, []byte("two"))
			two.has(t, []int{step, n}, want, free)
			open(t, f).has(t, []int{step, n}, want, free)
		}
	}
}

func TestJournalsOfTwoFlashes(t *testing.T) {
	f, g := blank(t, 100), blank(t, 100)
	j, k := open(t, f), open(t, g)
	j.Append([]byte("one"))
	k.has(t, "the other", nil, 50)
	k.Append([]byte("two"))
	k.Tear([]byte("three"), 1, 3)
	j.has(t, "the first", [][]byte{[]byte("one")}, 45)
	if err := j.Append([]byte("four")); err != nil {
		t.Error(err)
	}
	copied := flashOf(t, f.Bytes())
	j.Append([]byte("five"))
	open(t, copied).has(t, "a copy", [][]byte{[]byte("one"), []byte("four")}, 39)
}

// TestManyCallsOpenedAgainBehindEach keeps what was appended apart, and asks
// no paper for it.
func TestManyCallsOpenedAgainBehindEach(t *testing.T) {
	random := rand.New(rand.NewPCG(16, 4))
	for _, size := range []int{64, 65, 80, 150, 1000, 5000, 40000} {
		for range 8 {
			manyCalls(t, random, size, false)
			manyCalls(t, random, size, true)
		}
	}
}

func manyCalls(t *testing.T, random *rand.Rand, size int, always bool) {
	t.Helper()
	f := blank(t, size)
	j := open(t, f)
	var want [][]byte
	for call := range 60 {
		free := j.Free()
		if free == 0 {
			break
		}
		r := made(uint64(call), 1+random.IntN(min(free, 1+size/20)))
		step := random.IntN(5)
		switch step {
		case 1, 2:
			n := random.IntN([]int{0, 2 + len(r), 24}[step] + 1)
			if err := j.Tear(r, step, n); err != nil {
				t.Fatal(size, call, err)
			}
			if step == 2 && n == 24 {
				want = append(want, r)
			}
			j = open(t, f)
		default:
			if err := j.Append(r); err != nil {
				t.Fatal(size, call, err)
			}
			want = append(want, r)
		}
		if always {
			j = open(t, f)
		}
		if !same(j.Records(), want) {
			t.Fatal(size, call, len(j.Records()), len(want))
		}
		opensAs(t, size, f)
	}
}

// TestAllShortWaysOnASmallFlash goes all ways of four calls, each opened again
// where it is cut off.
func TestAllShortWaysOnASmallFlash(t *testing.T) {
	type call struct{ many, step, n int }
	calls := []call{{1, 0, 0}, {3, 0, 0}, {14, 0, 0}}
	for _, n := range []int{0, 1, 2, 4, 5} {
		calls = append(calls, call{3, 1, n})
	}
	for _, n := range []int{0, 1, 7, 8, 9, 15, 16, 17, 23, 24} {
		calls = append(calls, call{3, 2, n})
	}
	all := len(calls) * len(calls) * len(calls) * len(calls)
	for way := range all {
		f := blank(t, 64)
		j := open(t, f)
		var want [][]byte
		for left := way + all; left > 1; left /= len(calls) {
			c := calls[left%len(calls)]
			r := made(uint64(left), c.many)
			fits := c.many <= j.Free()
			var err error
			if c.step == 0 {
				err = j.Append(r)
			} else {
				err = j.Tear(r, c.step, c.n)
			}
			if fits != (err == nil) || !fits && !is(err, api.ErrFull) {
				t.Fatal(way, err)
			}
			if fits && (c.step == 0 || c.n == 24) {
				want = append(want, r)
			}
			if fits && c.step > 0 {
				j = open(t, f)
			}
			if !same(j.Records(), want) {
				t.Fatal(way, len(want))
			}
		}
		if !same(open(t, f).Records(), want) {
			t.Fatal(way, len(want))
		}
	}
}

// P1

func TestEveryCallEnds(t *testing.T) {
	random := rand.New(rand.NewPCG(16, 1))
	numbers := append(farInts(), -1, 0, 1, 2, 3, 24, 25)
	for run := range 300 {
		b := made(uint64(run), 64+random.IntN(100))
		for at := range 24 { // so that some slots count
			b[at] &= byte(run)
			b[24+at] &= byte(run / 2)
		}
		j := open(t, flashOf(t, b))
		for _, step := range numbers[run%7:] {
			r := made(1, random.IntN(40))
			j.Tear(r, step, numbers[random.IntN(len(numbers))])
			if run%3 == 0 {
				j.Append(r)
			}
			j.Free()
			j.Records()
		}
	}
}
