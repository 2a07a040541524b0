package device

import (
	"bytes"
	"math"
	"math/rand/v2"
	"slices"
	"testing"

	"clapper/api"
	"clapper/fare"
)

// noMinutes are none from 0 to MaxMinute.
func noMinutes() []int {
	return []int{
		-1, -2, -maxMinute, -maxMinute - 1, maxMinute + 1, maxMinute + 2, 2 * maxMinute, 1 << 32, 1<<32 + usualAt,
		math.MinInt, math.MinInt + usualAt, math.MaxInt,
	}
}

// P18.3

// TestEachVerdict holds each record, field by field, in unlike shifts.
func TestEachVerdict(t *testing.T) {
	for _, place := range [][2]int{{0, 1}, {5, 1}, {31, 1}} {
		x := working(t, plenty)
		x.begins("there", place[0], place[1], done)
		for i, verdict := range []int{1, 2, 3, 4, 5, 6, 7, 2, 1} {
			x.shows(verdict, usualAt+i)
			want := api.Record{
				Device: usualId, Seq: i, At: usualAt + i, Kind: 1, Stop: place[0], Zone: place[1],
				Serial: showings()[verdict].serial, Verdict: verdict, Bytes: showings()[verdict].b,
			}
			if i > 0 {
				want.Prev = x.link(i - 1)
			}
			x.isLast(verdict, i+1, want)
		}
		x.isChain(place)
	}
}

// TestTheZoneAndTheMinuteCount shows one ticket here and there, now and then.
func TestTheZoneAndTheMinuteCount(t *testing.T) {
	x := working(t, plenty)
	for _, c := range []struct{ zone, at, verdict int }{
		{1, 0, 6}, {1, 99, 6}, {2, 99, 5}, {0, 100, 1}, {1, 100, 1}, {2, 100, 5}, {7, 100, 5}, {1, 159, 1}, {0, 159, 1}, {1, 160, 6},
		{2, 160, 5}, {1, maxMinute - 1, 6}, {1, maxMinute, 3},
	} {
		x.begins(c, 9, c.zone, done)
		x.scans(c, shown(1), c.at, c.verdict)
		if r := x.paper.all[len(x.paper.all)-1].r; r.Zone != c.zone || r.At != c.at || r.Serial != 7 {
			t.Error(c, r)
		}
	}
	x.isChain("here and there")
}

// TestTheLastData decides, whatever was loaded ahead.
func TestTheLastData(t *testing.T) {
	x := working(t, 20000)
	late := usualData()
	late.Revoked = []api.Revoked{{Serial: 7, From: 130}}
	for at := usualAt; at < 140; at++ {
		data, want := usualData(), 1
		if at%2 == 0 {
			data = late
			if at >= 130 {
				want = 4
			}
		}
		x.loads(at, data, done)
		x.scans(at, shown(1), at, want)
		x.scans(at, shown(1), at, want)
	}
	x.isChain("by turns")
}

func TestEachCountOfBytes(t *testing.T) {
	x := working(t, 20000)
	for i, b := range [][]byte{
		nil, {}, {0}, {255}, made(2), made(30), made(124), made(125), made(126), made(255), made(256), made(257), made(499), made(500),
		make([]byte, 500), bytes.Repeat([]byte{255}, 500), made(501)[:500], slices.Grow(made(500), 500),
	} {
		x.scans(len(b), b, 10, 2)
		r := x.paper.all[i].r
		if !bytes.Equal(r.Bytes, b) || r.Serial != 0 || r.Verdict != 2 {
			t.Error(len(b), r)
		}
	}
	for _, many := range []int{501, 502, 512, 700, 1000, 2000, 2001, 65535, 65536, 70000, 1 << 20} {
		x.refusesScan(many, made(many), 10, api.ErrArg)
	}
	// A ticket's bytes with more behind them are no ticket's.
	x.scans("longer", append(shown(1), 0), usualAt, 2)
	x.scans("shorter", shown(1)[:len(shown(1))-1], usualAt, 2)
	x.scans("twice", append(shown(1), shown(1)...), usualAt, 2)
	x.isChain("counts")
}

func TestEachMinuteAboutItsEnds(t *testing.T) {
	for _, first := range []int{0, 1, 1440, maxMinute - 1, maxMinute} {
		x := working(t, plenty)
		for _, at := range noMinutes() {
			x.refusesScan(at, []byte("x"), at, api.ErrArg)
		}
		x.scans(first, []byte("x"), first, 2)
		for _, at := range noMinutes() {
			x.refusesScan(at, []byte("x"), at, api.ErrArg)
			x.notices(at, at, api.ErrArg)
			x.voids(at, 0, at, api.ErrArg)
		}
		x.scans("the same one", []byte("x"), first, 2)
		if first > 0 {
			x.refusesScan("one ahead", []byte("x"), first-1, api.ErrTime)
			x.refusesScan("0", []byte("x"), 0, api.ErrTime)
			x.notices("one ahead", first-1, api.ErrTime)
			x.voids("one ahead", 0, first-1, api.ErrTime)
		}
		x.notices("the same one", first, done)
		x.voids("the same one", 2, first, done)
		if first < maxMinute {
			x.scans("one behind", []byte("x"), first+1, 2)
			x.refusesScan("one ahead", []byte("x"), first, api.ErrTime)
			x.notices("one ahead", first, api.ErrTime)
			x.notices("the same one", first+1, done)
			x.voids("one ahead", 5, first, api.ErrTime)
			x.voids("the same one", 5, maxMinute, done)
			x.refusesScan("one ahead", []byte("x"), maxMinute-1, api.ErrTime)
		}
		x.opensAgain("its time is the last one's")
		x.begins("again", 0, 0, done)
		if first < maxMinute {
			x.refusesScan("one ahead", []byte("x"), maxMinute-1, api.ErrTime)
		}
		x.scans("last", []byte("x"), maxMinute, 2)
		x.isChain(first)
	}
}

// TestWhichErrorOfScanIsFirst has each fault with each other one.
func TestWhichErrorOfScanIsFirst(t *testing.T) {
	for _, isOn := range []bool{false, true} {
		for _, isLong := range []bool{false, true} {
			for _, at := range []int{math.MinInt, -1, 0, 99, 100, maxMinute, maxMinute + 1, math.MaxInt} {
				x := working(t, plenty)
				x.scans("first", []byte("x"), 100, 2)
				if !isOn {
					x.ends("none", done)
				}
				b, want := made(500), done
				if isLong {
					b = made(501)
				}
				switch {
				case !isOn:
					want = api.ErrState
				case isLong, at < 0, at > maxMinute:
					want = api.ErrArg
				case at < 100:
					want = api.ErrTime
				}
				if want == done {
					x.scans(at, b, at, 2)
				} else {
					x.refusesScan(at, b, at, want)
				}
			}
		}
	}
}

// TestScanKeepsNothingThatIsHandedIn changes it behind the call.
func TestScanKeepsNothingThatIsHandedIn(t *testing.T) {
	x := working(t, plenty)
	for _, one := range [][]byte{shown(1), made(500), []byte("x")} {
		b := slices.Grow(slices.Clone(one), 100)
		if _, err := x.device.Scan(b, usualAt); err != nil {
			t.Error(err)
		}
		x.paper.scan(t, one, usualAt)
		if !bytes.Equal(b, one) {
			t.Error("it is changed")
		}
		_ = append(b, 1, 2, 3)
		clear(b)
		x.isAsPaper("changed behind the call")
	}
	x.isChain("changed behind the call")
}

// P18.4: Notice

func TestNoticeOfNoRecord(t *testing.T) {
	x := fresh(t, plenty)
	for _, isOn := range []bool{false, true} {
		for _, at := range append(noMinutes(), 0, 1, maxMinute) {
			x.notices(isOn, at, api.ErrState)
		}
		x.begins(isOn, usualStop, usualZone, done)
	}
}

func TestNoticeBehindEachVerdict(t *testing.T) {
	for verdict := 1; verdict <= 7; verdict++ {
		for ahead := range 3 {
			x := working(t, plenty)
			for range ahead {
				x.shows(8-verdict, usualAt)
			}
			x.shows(verdict, usualAt)
			if verdict == 1 {
				for _, at := range append(noMinutes(), usualAt-1, usualAt, maxMinute) {
					x.notices(verdict, at, api.ErrState)
				}
				continue
			}
			for _, at := range noMinutes() {
				x.notices(at, at, api.ErrArg)
			}
			x.notices(verdict, usualAt-1, api.ErrTime)
			x.notices(verdict, 0, api.ErrTime)
			x.notices(verdict, usualAt+3, done)
			x.isLast(verdict, ahead+2, api.Record{
				Device: usualId, Seq: ahead + 1, At: usualAt + 3, Kind: 2, Stop: usualStop, Zone: usualZone, Serial: ahead, Prev: x.link(ahead),
			})
			x.isChain(verdict)
		}
	}
}

// TestNoticeBehindANotice is refused, and so it is behind a Void, whatever its
// minute is.
func TestNoticeBehindANotice(t *testing.T) {
	x := working(t, plenty)
	x.shows(2, usualAt)
	x.notices("first", usualAt, done)
	for _, at := range append(noMinutes(), 0, usualAt, maxMinute) {
		x.notices("behind a notice", at, api.ErrState)
	}
	x.voids("first", 1, usualAt, done)
	for _, at := range append(noMinutes(), 0, usualAt, maxMinute) {
		x.notices("behind a void", at, api.ErrState)
	}
	x.shows(5, usualAt+1)
	x.notices("second", usualAt+1, done)
	x.notices("behind a notice", usualAt+1, api.ErrState)
	x.shows(6, usualAt+2)
	x.shows(1, usualAt+2)
	x.notices("behind a valid one", usualAt+2, api.ErrState)
	x.isChain("notices")
}

// TestNoticeInAnotherShift is of the record that is the last one, there and then.
func TestNoticeInAnotherShift(t *testing.T) {
	x := working(t, plenty)
	x.shows(4, usualAt)
	x.ends("over", done)
	x.notices("no shift", usualAt, api.ErrState)
	x.notices("no shift, and no minute", -1, api.ErrState)
	x.begins("elsewhere", 31, 7, done)
	x.notices("elsewhere", usualAt, done)
	x.isLast("elsewhere", 2, api.Record{
		Device: usualId, Seq: 1, At: usualAt, Kind: 2, Stop: 31, Zone: 7, Serial: 0, Prev: x.link(0),
	})
	x.shows(2, usualAt)
	x.opensAgain("opened again")
	x.notices("no shift", usualAt, api.ErrState)
	x.begins("opened again", 0, 0, done)
	x.notices("opened again", usualAt, done)
	x.voids("the first one", 1, usualAt, done)
	x.voids("the second one", 3, usualAt, done)
	x.isChain("shifts")
}

// P18.4: Void

// noSeqs are of no record, where there are few.
func noSeqs() []int {
	return []int{-1, -2, 100, maxMinute, maxMinute + 1, maxSerial, maxSerial + 1, 1 << 32, 1<<32 + 1, math.MinInt, math.MinInt + 1, math.MaxInt}
}

func TestVoidOfNone(t *testing.T) {
	x := working(t, plenty)
	for _, seq := range append(noSeqs(), 0, 1) {
		x.voids("no records", seq, usualAt, api.ErrNone)
	}
	x.shows(2, usualAt)
	x.notices("first", usualAt, done)
	x.shows(1, usualAt)
	x.voids("first", 1, usualAt, done)
	for _, seq := range append(noSeqs(), 0, 2, 3, 4, 5) {
		x.voids(seq, seq, usualAt, api.ErrNone)
	}
	x.voids("twice", 1, usualAt, api.ErrTwice)
	x.isLast("a void", 4, api.Record{
		Device: usualId, Seq: 3, At: usualAt, Kind: 3, Stop: usualStop, Zone: usualZone, Serial: 1, Prev: x.link(2),
	})
}

// TestVoidsInEitherOrder is of two notices, each voided twice.
func TestVoidsInEitherOrder(t *testing.T) {
	for _, order := range [][2]int{{1, 3}, {3, 1}} {
		for _, again := range []bool{false, true} {
			x := working(t, plenty)
			x.shows(2, usualAt)
			x.notices("first", usualAt, done)
			x.shows(3, usualAt)
			x.notices("second", usualAt, done)
			for i, seq := range order {
				x.begins("there", 10+i, i, done)
				x.voids(seq, seq, usualAt+i, done)
				x.isLast(seq, 5+i, api.Record{
					Device: usualId, Seq: 4 + i, At: usualAt + i, Kind: 3, Stop: 10 + i, Zone: i, Serial: seq, Prev: x.link(3 + i),
				})
				if again {
					x.atWork(seq)
				}
				x.voids(seq, seq, usualAt+i, api.ErrTwice)
				x.voids(seq, seq, maxMinute, api.ErrTwice)
			}
			for seq := range 6 {
				want := api.ErrNone
				if seq == 1 || seq == 3 {
					want = api.ErrTwice
				}
				x.voids(seq, seq, usualAt+1, want)
			}
			x.isChain(order)
		}
	}
}

// TestASerialIsNoVoid shows tickets whose Serials are Seqs of notices, and
// gives notices of the Seqs beside.
func TestASerialIsNoVoid(t *testing.T) {
	x := working(t, plenty)
	x.shows(2, usualAt)
	x.notices("first", usualAt, done)
	x.scans("Serial 1", issue(api.Ticket{Serial: 1, Product: 2, Zones: 3, From: 100, Key: 1}, 6), usualAt, 3)
	x.notices("of Seq 2", usualAt, done)
	x.scans("Serial 3", issue(api.Ticket{Serial: 3, Product: 2, Zones: 3, From: 100, Key: 1}, 5), usualAt, 1)
	x.voids("an Inspect", 2, usualAt, api.ErrNone)
	x.voids("first", 1, usualAt, done)
	x.voids("second", 3, usualAt, done)
	x.voids("first", 1, usualAt, api.ErrTwice)
	x.voids("a Void", 5, usualAt, api.ErrNone)
}

// TestWhichErrorOfVoidIsFirst has each fault with each other one.
func TestWhichErrorOfVoidIsFirst(t *testing.T) {
	for _, isOn := range []bool{false, true} {
		for _, at := range []int{math.MinInt, -1, 0, usualAt - 1, usualAt, maxMinute, maxMinute + 1, math.MaxInt} {
			for _, seq := range append(noSeqs(), 0, 1, 2, 3, 4, 5) {
				x := working(t, plenty)
				x.shows(2, usualAt)
				x.notices("first", usualAt, done)
				x.shows(2, usualAt)
				x.notices("second", usualAt, done)
				x.voids("first", 1, usualAt, done)
				if !isOn {
					x.ends("none", done)
				}
				want := done
				switch {
				case !isOn:
					want = api.ErrState
				case at < 0, at > maxMinute:
					want = api.ErrArg
				case at < usualAt:
					want = api.ErrTime
				case seq == 1:
					want = api.ErrTwice
				case seq != 3:
					want = api.ErrNone
				}
				x.voids([]int{seq, at}, seq, at, want)
			}
		}
	}
}

// P18.8

// TestVerdictsAreFares shows this and that by unlike data, in unlike zones.
func TestVerdictsAreFares(t *testing.T) {
	t.Parallel()
	r := rand.New(rand.NewPCG(18, 2))
	told := map[int]int{}
	for range 12 {
		x := fresh(t, 20000)
		at := 0
		for range 15 {
			if r.IntN(3) == 0 {
				x.loads("any", anyData(r), done)
			}
			zone := r.IntN(8)
			x.begins("any", r.IntN(32), zone, done)
			b := shown(1 + r.IntN(7))
			at += r.IntN(40)
			data := x.paper.data
			want, err := fare.Verdict(data.Keys, data.Revoked, data.Products, b, zone, at)
			if err != nil {
				t.Fatal(err)
			}
			x.scans(at, b, at, want)
			told[want]++
		}
		x.isChain("any")
	}
	for verdict := 1; verdict <= 7; verdict++ {
		if told[verdict] == 0 {
			t.Error("no such verdict", verdict)
		}
	}
}

// anyData is the usual data, more or less.
func anyData(r *rand.Rand) api.Data {
	x := usualData()
	x.Keys[0].From, x.Keys[0].To = r.IntN(50), 400+r.IntN(300)
	if r.IntN(4) == 0 {
		x.Keys = nil
	}
	if r.IntN(2) == 0 {
		x.Revoked = []api.Revoked{{Serial: 7 + r.IntN(6), From: r.IntN(300)}}
	}
	x.Products[0].Minutes = 1 + r.IntN(400)
	switch r.IntN(4) {
	case 0:
		x.Products = append(x.Products, api.Product{Id: 3, Minutes: 500, Service: daily()})
	case 1:
		x.Products[0].Service.Except = []int{0}
	case 2:
		x.Products = nil
	}
	return x
}
