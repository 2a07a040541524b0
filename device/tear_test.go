package device

import (
	"bytes"
	"math"
	"math/rand/v2"
	"slices"
	"strconv"
	"testing"

	"clapper/api"
)

// Sizes of what is written: with its length, beside what was shown.
const (
	noticeBytes = 2 + frame
	scanBytes   = noticeBytes + 1 // of "x"
)

// P18.3 and P18.4: no room

// TestFlashesWithNoRoom goes by all sizes about those where one more fits.
func TestFlashesWithNoRoom(t *testing.T) {
	t.Parallel()
	for _, all := range []int{scanBytes, scanBytes + noticeBytes, scanBytes + 2*noticeBytes, 2*scanBytes + 2*noticeBytes} {
		for less := -2; less <= 3; less++ {
			x := working(t, slots+all-less)
			room := slots + all - less
			takes := func(many int) api.Code {
				if room-slots < many {
					return api.ErrFull
				}
				return done
			}
			code := takes(scanBytes)
			if code == done {
				x.scans(less, []byte("x"), usualAt, 2)
			} else {
				x.refusesScan(less, []byte("x"), usualAt, code)
				x.notices("no record", usualAt, api.ErrState)
				continue
			}
			x.notices(less, usualAt+1, takes(scanBytes+noticeBytes))
			if takes(scanBytes+noticeBytes) == done {
				x.voids(less, 1, usualAt+2, takes(scanBytes+2*noticeBytes))
			}
			if takes(scanBytes+2*noticeBytes) == done && takes(2*scanBytes+2*noticeBytes) != done {
				x.refusesScan(less, []byte("x"), usualAt+3, api.ErrFull)
			}
			x.opensAgain(less)
			x.isChain(less)
		}
	}
}

func TestAFlashThatTakesNothing(t *testing.T) {
	for _, size := range []int{64, 65, 100, slots + noticeBytes - 1} {
		x := working(t, size)
		for at := range 3 {
			x.refusesScan(size, nil, at, api.ErrFull)
			x.refusesScan(size, made(500), at, api.ErrFull)
		}
		x.refusesScan("first of all", made(501), 0, api.ErrArg)
		x.refusesScan("first of all", nil, -1, api.ErrArg)
		x.notices("no record", 0, api.ErrState)
		x.voids("no record", 0, 0, api.ErrNone)
		x.opensAgain(size)
	}
	x := working(t, slots+noticeBytes)
	x.scans("just so", nil, 0, 2)
	x.refusesScan("no more", nil, 0, api.ErrFull)
}

// TestNoRoomChangesNothing tries what is too much, and then what isn't, at a
// lesser minute.
func TestNoRoomChangesNothing(t *testing.T) {
	x := working(t, slots+2*scanBytes+3*noticeBytes)
	x.scans("first", []byte("x"), 100, 2)
	x.notices("first", 101, done)
	for at := 200; at < 205; at++ {
		x.refusesScan(at, made(500), at, api.ErrFull)
	}
	x.refusesScan("its time", []byte("x"), 100, api.ErrTime)
	x.scans("second", []byte("x"), 101, 2)
	x.refusesScan("too much", made(2*noticeBytes-frame), 300, api.ErrFull)
	x.refusesScan("too much", made(500), maxMinute, api.ErrFull)
	x.notices("second", 101, done)
	x.refusesScan("too much by one", []byte("x"), 400, api.ErrFull)
	x.voids("the last one", 1, 102, done)
	for at := 102; at < 105; at++ {
		x.refusesScan(at, nil, at, api.ErrFull)
		x.notices("behind a void", at, api.ErrState)
		x.voids(at, 3, at, api.ErrFull)
		x.voids(at, 1, at, api.ErrTwice)
		x.voids(at, 0, at, api.ErrNone)
	}
	x.voids("its time", 3, 101, api.ErrTime)
	if x.flash.Size() != len(x.paper.bytes) || len(x.paper.all) != 5 {
		t.Error(len(x.paper.all))
	}
	x.isChain("full")
	x.opensAgain("full")
	x.isChain("full")
}

// TestASeqAboveTheGreatest asks inner functions: no flash has so many records.
func TestASeqAboveTheGreatest(t *testing.T) {
	for _, c := range []struct {
		many int
		code api.Code
	}{{1 << 30, done}, {1<<30 + 1, api.ErrFull}, {1<<30 + 2, api.ErrFull}} {
		x := working(t, plenty)
		x.tears(1, 5)
		err := x.device.write(past{many: c.many}, api.Record{Kind: 2})
		switch {
		case c.code == done && err != api.ErrState: // it is cut off
			t.Error(c.many, err)
		case c.code != done && err != error(c.code):
			t.Error(c.many, err)
		}
		if isWritten := !bytes.Equal(x.flash.Bytes(), x.paper.bytes); isWritten != (c.code == done) {
			t.Error(c.many, isWritten)
		}
	}
}

// P18.5

// next is a kind of write: what is written ahead of it, and it.
type next struct {
	name   string
	ahead  func(x *both)
	write  func(x *both, want api.Code)
	length int // of the bytes of its first step
}

// nexts are one of each kind, all at the usual minute.
func nexts() []next {
	scan := func(x *both, want api.Code) {
		x.Helper()
		if want == done {
			x.scans("next", []byte("x"), usualAt, 2)
		} else {
			x.refusesScan("next", []byte("x"), usualAt, want)
		}
	}
	return []next{
		{"scan", func(x *both) {}, scan, scanBytes},
		{
			"notice",
			func(x *both) { scan(x, done) },
			func(x *both, want api.Code) { x.Helper(); x.notices("next", usualAt, want) },
			noticeBytes,
		},
		{
			"void",
			func(x *both) { scan(x, done); x.notices("ahead", usualAt, done) },
			func(x *both, want api.Code) { x.Helper(); x.voids("next", 1, usualAt, want) },
			noticeBytes,
		},
	}
}

// isSpoilt holds that nothing is written any more, and all else is as ever.
func (x *both) isSpoilt(name any) {
	x.Helper()
	many := len(x.paper.all)
	x.refusesScan(name, []byte("x"), usualAt, api.ErrState)
	x.refusesScan(name, made(500), maxMinute, api.ErrState)
	x.refusesScan(name, made(501), usualAt, api.ErrArg)
	x.refusesScan(name, nil, -1, api.ErrArg)
	x.voids(name, 100, usualAt, api.ErrNone)
	x.voids(name, 1, maxMinute+1, api.ErrArg)
	for _, w := range x.paper.all {
		if w.r.Kind == 2 {
			x.voids(name, w.r.Seq, usualAt, api.ErrState)
		}
	}
	x.notices(name, usualAt, api.ErrState)
	if many > 0 {
		x.refusesScan(name, nil, 0, api.ErrTime)
	}
	x.loads(name, usualData(), done)
	x.loads(name, api.Data{Revoked: []api.Revoked{{}}}, api.ErrArg)
	x.begins(name, 31, 7, done)
	x.begins(name, 32, 7, api.ErrArg)
	x.ends(name, done)
	x.ends(name, api.ErrState)
	x.refusesScan(name, made(501), -1, api.ErrState)
	x.begins(name, 0, 0, done)
	x.tears(2, 24)
	x.refusesScan(name, nil, usualAt, api.ErrState)
	if len(x.device.Records()) != many {
		x.Error(name, "other records")
	}
}

// cutsOff has the next write cut off by what Tear was told last, opens the
// device again, and goes on: isThere tells whether the record should be there.
func (x *both) cutsOff(name any, c next, isThere bool) {
	x.Helper()
	many := len(x.paper.all)
	c.write(x, api.ErrState)
	x.isSpoilt(name)
	x.atWork(name)
	want := many
	if isThere {
		want++
	}
	if told := len(x.device.Records()); told != want {
		x.Error(name, "told", told, "of", want)
	}
	if !isThere {
		c.write(x, done)
	}
	x.scans(name, made(40), usualAt, 2)
	x.isChain(name)
}

// TestEachCut goes through each step and each count of bytes, ahead of each
// kind of write.
func TestEachCut(t *testing.T) {
	t.Parallel()
	for _, c := range nexts() {
		for step := -1; step <= 3; step++ {
			t.Run(c.name+strconv.Itoa(step), func(t *testing.T) {
				t.Parallel()
				most := 24
				if step == 1 {
					most = c.length
				}
				for n := -1; n <= most+1; n++ {
					x := working(t, 1200)
					c.ahead(x)
					x.tears(step, n)
					x.cutsOff([]int{step, n}, c, step != 1 && n >= 24)
				}
			})
		}
	}
}

// TestFarCuts are steps and counts as far off as they can be.
func TestFarCuts(t *testing.T) {
	t.Parallel()
	far := []int{math.MinInt, math.MinInt + 1, math.MinInt + 24, -1 << 32, 1 << 32, 1<<32 + 1, 1<<32 + 24, math.MaxInt - 1, math.MaxInt}
	for _, c := range nexts() {
		for _, n := range append(far, 0, 24, c.length) {
			for _, step := range []int{1, 2} {
				x := working(t, 1200)
				c.ahead(x)
				x.tears(step, n)
				x.cutsOff([]int{step, n}, c, step == 2 && n >= 24)
			}
		}
		for _, step := range far {
			x := working(t, 1200)
			c.ahead(x)
			x.tears(step, c.length) // all, by either step
			x.cutsOff(step, c, true)
		}
	}
}

// TestTheLongestIsCut is of a record of MaxShown bytes.
func TestTheLongestIsCut(t *testing.T) {
	t.Parallel()
	for n := frame + 490; n <= frame+maxShown+4; n++ {
		x := working(t, 2000)
		x.tears(1, n)
		x.refusesScan(n, made(500), usualAt, api.ErrState)
		x.opensAgain(n)
		if len(x.paper.all) != 0 {
			t.Error(n)
		}
		x.begins(n, 0, 0, done)
		x.scans(n, made(500), usualAt, 2)
		x.isChain(n)
	}
}

// TestTheLastTearCounts tells of two unlike ones, in either order.
func TestTheLastTearCounts(t *testing.T) {
	t.Parallel()
	cuts := [][2]int{{1, 0}, {1, 1000}, {2, 10}, {2, 24}, {0, 23}}
	for _, c := range nexts() {
		for _, first := range cuts {
			for _, last := range cuts {
				x := working(t, 1200)
				c.ahead(x)
				x.tears(2, 24)
				x.tears(first[0], first[1])
				x.tears(last[0], last[1])
				x.cutsOff([][2]int{first, last}, c, last[0] != 1 && last[1] >= 24)
			}
		}
	}
}

// TestTearAheadOfWhatIsRefused waits for the next record that is written.
func TestTearAheadOfWhatIsRefused(t *testing.T) {
	for _, c := range nexts() {
		for _, cut := range [][2]int{{1, 3}, {2, 23}, {2, 24}} {
			x := working(t, 1200)
			c.ahead(x)
			x.tears(cut[0], cut[1])
			x.refusesScan("too long", made(501), usualAt, api.ErrArg)
			x.refusesScan("no minute", nil, -1, api.ErrArg)
			x.voids("no minute", 1, maxMinute+1, api.ErrArg)
			x.voids("none", 7, usualAt, api.ErrNone)
			if c.name == "void" {
				x.notices("behind a notice", usualAt, api.ErrState)
			}
			if c.name != "scan" {
				x.refusesScan("its time", nil, usualAt-1, api.ErrTime)
				x.voids("its time", 1, usualAt-1, api.ErrTime)
			}
			x.ends("no shift", done)
			x.refusesScan("no shift", nil, usualAt, api.ErrState)
			x.notices("no shift", usualAt, api.ErrState)
			x.voids("no shift", 1, usualAt, api.ErrState)
			x.begins("no such place", 0, 8, api.ErrArg)
			x.loads("other data", api.Data{}, done)
			x.loads("usual data", usualData(), done)
			x.begins("again", usualStop, usualZone, done)
			x.cutsOff(cut, c, cut == [2]int{2, 24})
		}
	}
}

// TestTearAheadOfNoRoom is told that there is none, and waits, too.
func TestTearAheadOfNoRoom(t *testing.T) {
	for _, c := range nexts() {
		for _, cut := range [][2]int{{1, 0}, {1, 3}, {1, 1000}, {2, 0}, {2, 23}, {2, 24}, {-1, -1}} {
			x := working(t, 300+2*noticeBytes)
			c.ahead(x)
			x.tears(cut[0], cut[1])
			for range 2 {
				x.refusesScan("no room", made(500), usualAt+5, api.ErrFull)
			}
			many := len(x.paper.all)
			c.write(x, api.ErrState)
			x.refusesScan("spoilt", made(500), usualAt, api.ErrState) // not ErrFull any more
			x.opensAgain(cut)
			want := many
			if cut == [2]int{2, 24} {
				want++
			}
			if told := len(x.device.Records()); told != want {
				t.Error(c.name, cut, told)
			}
			x.isChain(cut)
		}
	}
	// Where nothing fits, nothing is cut off.
	x := working(t, 100)
	x.tears(2, 24)
	for at := range 3 {
		x.refusesScan("no room", nil, at, api.ErrFull)
	}
	x.opensAgain("no room")
}

// TestTearEndsWithTheDevice that it was told: one opened again knows nothing
// of it.
func TestTearEndsWithTheDevice(t *testing.T) {
	x := working(t, plenty)
	x.tears(1, 0)
	x.atWork("ahead of the write")
	x.scans("first", []byte("x"), usualAt, 2)
	x.tears(1, 0)
	x.notices("cut off", usualAt, api.ErrState)
	x.atWork("behind the write")
	x.notices("second", usualAt, done)
	x.scans("third", []byte("x"), usualAt, 2)
	x.isChain("opened again")
}

// P18.7

// step is something that a session does: it writes just one record.
type step func(x *both, want api.Code)

// session is shifts, here and there, with each kind of record and each verdict.
func session() []step {
	scan := func(stop, zone, at, shownAs, verdict int) step {
		return func(x *both, want api.Code) {
			x.Helper()
			x.begins("session", stop, zone, done)
			if want == done {
				x.scans("session", shown(shownAs), at, verdict)
			} else {
				x.refusesScan("session", shown(shownAs), at, want)
			}
		}
	}
	notice := func(stop, zone, at int) step {
		return func(x *both, want api.Code) {
			x.Helper()
			x.begins("session", stop, zone, done)
			x.notices("session", at, want)
		}
	}
	void := func(stop, zone, seq, at int) step {
		return func(x *both, want api.Code) {
			x.Helper()
			x.begins("session", stop, zone, done)
			x.voids("session", seq, at, want)
		}
	}
	return []step{
		scan(1, 1, 100, 1, 1), scan(1, 1, 101, 2, 2), notice(1, 1, 101), scan(1, 1, 105, 3, 3), notice(1, 1, 107),
		scan(31, 2, 110, 1, 5), notice(31, 2, 110), void(30, 2, 4, 111), scan(30, 0, 112, 4, 4), scan(30, 0, 150, 7, 7),
		notice(0, 7, 151), void(0, 7, 2, 151), scan(0, 1, 160, 1, 6), void(9, 3, 10, 161), scan(9, 2, 162, 5, 6),
	}
}

// whole is what a session writes that nothing cuts off.
func whole(t *testing.T) [][]byte {
	t.Helper()
	x := working(t, 6000)
	for _, s := range session() {
		s(x, done)
	}
	x.isChain("whole")
	return x.device.Records()
}

// recovers lets a write be cut off, opens the device again, and has the record
// written then, if it isn't there.
func (x *both) recovers(name any, s step, cut [2]int) {
	x.Helper()
	many := len(x.paper.all)
	told := x.device.Records()
	x.tears(cut[0], cut[1])
	s(x, api.ErrState)
	if !same(x.device.Records(), told) {
		x.Error(name, "what is cut off is told ahead")
	}
	x.opensAgain(name)
	l := x.device.Records()
	if len(l) < many || !same(l[:many], told) {
		x.Error(name, "what was told isn't there")
	}
	if isThere := len(l) == many+1; isThere != (cut[0] != 1 && cut[1] >= 24) {
		x.Error(name, "other records", many, len(l))
	}
	x.loads(name, usualData(), done)
	if len(l) == many {
		s(x, done)
	}
}

// TestCutOffAtEveryPlace cuts each write of a session off, at each place that
// is unlike the others, and goes on: what it comes to is the same.
func TestCutOffAtEveryPlace(t *testing.T) {
	t.Parallel()
	all := whole(t)
	for _, cut := range [][2]int{
		{1, -1}, {1, 0}, {1, 1}, {1, 2}, {1, 100}, {1, 197}, {1, 198}, {1, 1000}, {2, 0}, {2, 1}, {2, 8}, {2, 15}, {2, 16}, {2, 17}, {2, 23}, {2, 24},
		{0, 24}, {5, 30},
	} {
		t.Run(strconv.Itoa(cut[0])+" "+strconv.Itoa(cut[1]), func(t *testing.T) {
			t.Parallel()
			for at := range session() {
				x := working(t, 6000)
				for i, s := range session() {
					if i == at {
						x.recovers([]int{at, cut[0], cut[1]}, s, cut)
					} else {
						s(x, done)
					}
				}
				if !same(x.device.Records(), all) {
					t.Error(at, cut, "other records in the end")
				}
				x.isChain(cut) // and so are its first ones, which were there when it was opened again
			}
		})
	}
}

// TestCutOffAgainAndAgain cuts each write off, some many times.
func TestCutOffAgainAndAgain(t *testing.T) {
	t.Parallel()
	all := whole(t)
	r := rand.New(rand.NewPCG(18, 3))
	for range 6 {
		x := working(t, 6000)
		for i, s := range session() {
			for range r.IntN(4) {
				many := len(x.paper.all)
				x.tears(1+r.IntN(2), r.IntN(24))
				s(x, api.ErrState)
				x.opensAgain(i)
				x.loads(i, usualData(), done)
				if len(x.device.Records()) != many {
					t.Error(i, "a record that is cut off")
				}
			}
			x.recovers(i, s, [2]int{2, 23 + r.IntN(2)})
		}
		if !same(x.device.Records(), all) {
			t.Error("other records in the end")
		}
		x.isChain("again and again")
	}
}

// TestAnySession does this and that, right or wrong, as the paper does.
func TestAnySession(t *testing.T) {
	t.Parallel()
	for seed := range 16 {
		t.Run(strconv.Itoa(seed), func(t *testing.T) {
			t.Parallel()
			anySession(t, rand.New(rand.NewPCG(18, uint64(100+seed))))
		})
	}
}

func anySession(t *testing.T, r *rand.Rand) {
	x := freshOf(t, 1+r.IntN(maxSerial), api.Num{1 + r.Uint64N(1000), r.Uint64()}, 64+r.IntN(6000))
	at := 0
	for i := range 150 {
		minute := at + r.IntN(4) - 1
		switch r.IntN(14) {
		case 0:
			x.any(i, "Begin", x.device.Begin(i%33, i%9), x.paper.begin(i%33, i%9))
		case 1:
			if r.IntN(4) == 0 {
				x.any(i, "End", x.device.End(), x.paper.end())
			}
		case 2:
			data := anyData(r)
			x.any(i, "Load", x.device.Load(data), x.paper.load(data))
		case 3:
			if r.IntN(3) == 0 {
				x.tears(r.IntN(4), r.IntN(30)-2)
			}
		case 4:
			x.opensAgain(i)
		case 5, 6, 7:
			x.any(i, "Notice", x.device.Notice(minute), x.paper.notice(t, minute))
		case 8, 9, 10:
			seq := r.IntN(len(x.paper.all)+3) - 1
			x.any(i, "Void", x.device.Void(seq, minute), x.paper.void(t, seq, minute))
		default:
			b := shown(1 + r.IntN(7))
			verdict, err := x.device.Scan(b, minute)
			want, code := x.paper.scan(t, b, minute)
			if verdict != want {
				t.Error(i, "Scan", verdict, want)
			}
			x.any(i, "Scan", err, code)
		}
		if many := len(x.paper.all); many > 0 {
			at = x.paper.all[many-1].r.At + r.IntN(2)
		}
		if !x.paper.on && r.IntN(3) > 0 {
			x.begins(i, r.IntN(32), r.IntN(3), done)
		}
	}
	x.opensAgain("in the end")
	x.isChain("in the end")
}

// any holds that a call told what the paper did, whatever that is.
func (x *both) any(name any, call string, err error, paper api.Code) {
	x.Helper()
	x.is(name, call, err, paper, paper)
}

// P18.6

// TestTheFlashItselfIsWritten, not a copy of it, and by nothing but writes.
func TestTheFlashItselfIsWritten(t *testing.T) {
	x := working(t, plenty)
	if !bytes.Equal(x.flash.Bytes(), make([]byte, plenty)) {
		t.Error("Open, Load or Begin write")
	}
	x.shows(1, usualAt)
	copied := x.flash.Bytes()
	v := mustOpen(t, usualId, usualSecret(), flashOf(t, copied))
	if !same(v.Records(), x.device.Records()) || len(v.Records()) != 1 {
		t.Error("a copy has other records")
	}
	if err := v.Begin(0, 0); err != nil {
		t.Error(err)
	}
	if _, err := v.Scan(nil, usualAt); err != nil {
		t.Error(err)
	}
	x.isAsPaper("a device on a copy")
	if !slices.Equal(x.flash.Bytes()[slots:slots+2], []byte{1, byte((frame + len(shown(1))) & 255)}) {
		t.Error("no record behind the slots")
	}
}
