package device

import (
	"bytes"
	"encoding/binary"
	"encoding/hex"
	"math"
	"math/rand/v2"
	"slices"
	"strings"
	"testing"

	"clapper/api"
	"clapper/flash"
	"clapper/journal"
	"clapper/limb"
	"clapper/record"
)

func unhex(text string) []byte {
	b, err := hex.DecodeString(strings.Join(strings.Fields(text), ""))
	if err != nil {
		panic(err)
	}
	return b
}

func hexNum(text string) api.Num {
	a, err := limb.Of(unhex(text))
	if err != nil {
		panic(err)
	}
	return a
}

func order() api.Num {
	return hexNum("ffffffff00000000ffffffffffffffffbce6faada7179e84f3b9cac2fc632551")
}

func belowOrder() api.Num {
	return hexNum("ffffffff00000000ffffffffffffffffbce6faada7179e84f3b9cac2fc632550")
}

func aboveOrder() api.Num {
	return hexNum("ffffffff00000000ffffffffffffffffbce6faada7179e84f3b9cac2fc632552")
}

func greatest() api.Num {
	return api.Num{math.MaxUint64, math.MaxUint64, math.MaxUint64, math.MaxUint64}
}

// TestTheExample is of the chapter's table.
func TestTheExample(t *testing.T) {
	fresh(t, plenty).refusesScan("at first", nil, 0, api.ErrState)
}

// TestWhatAnotherProgramWrote holds a flash against bytes that a program
// outside the project signed, linked and laid out.
func TestWhatAnotherProgramWrote(t *testing.T) {
	first := unhex(`
01007f01000800000000000000030200080000000000000000030008000000000000000a0400080000000000000001050008
0000000000000001060008000000000000000207000800000000000000000800080000000000000002090020000000000000
00000000000000000000000000000000000000000000000000000a0001780200408a516f630fbbb9b7e91289b27bdf0c802a
aa1cdff94d72017e81ebe9ad9ba3b96984bc28955c367fe09affa676b38fe3ce87ff9847b90f066f0ada79a77d5336`)
	second := unhex(`
01007e01000800000000000000030200080000000000000001030008000000000000000b0400080000000000000002050008
0000000000000001060008000000000000000207000800000000000000000800080000000000000000090020c667901f1603
4080639fb9a5e5b0b0ed94c11d5f15bbe35e47c89d9509efd3510a0000020040aea96c7eb96d7e9a1f045c34db77aa7ebf36
428c6e3326c58fe0c100d06e88f19834d5905b703234e2f7e94821f5199e1b2e8ab8e9e5ce869fd1e2f7f2b4b69e`)
	third := unhex(`
0100fb01000800000000000000030200080000000000000002030008000000000000006e0400080000000000000001050008
000000000000001e06000800000000000000010700080000000000000007080008000000000000000109002026cdb93067bf
082883e1f6f350cc17446b74dc6d4242dc5c4074ffb9644282860a007d010037010008000000000000000702000800000000
0000000203000800000000000000030400080000000000000064050008000000000000000102004062f806fdd4b4599220c4
b671454761101aa7409d9e5e43fdd9e5673cb9c8bf76ad4d05b11ce02f52631e3d9495d4a7ee0aca86261a469301fed608b5
e6faa64d020040ed0a626732a10beec3941feeb64712fe2f93c455749294749ccbcfa1bca93fb891ee07039aa9fd09b0f48e
01b9c64f5d546b3a468b54bcbafeae31f6870c5e04`)
	fourth := unhex(`
01007e01000800000000000000030200080000000000000003030008000000000000006e0400080000000000000003050008
000000000000001e0600080000000000000001070008000000000000000108000800000000000000000900200ef0cc73656a
be22f3c020d294c63b4b5172c7351ba4c8cea5375c4b6e25f5140a0000020040e52930bb38589c5eb1ae353270ab598f875f
18935c531d82ccd5f966e7d2fac176d1279193c84971150bbac94b2b6a8cb7d43edf1280c1168a8ca3bbedc7abff`)
	head := unhex(`
000000000000000400000000000003960000000000000004 000000000000000300000000000002d00000000000000003`)

	x := freshOf(t, 3, hexNum("c9afa9d845ba75166b5c215767b1d6934e50c3db36e89b127b8a622b120f6721"), 1200)
	x.begins("first", 1, 2, done)
	x.scans("first", []byte("x"), 10, 2)
	x.notices("second", 11, done)
	x.begins("third", 30, 1, done)
	x.loads("third", usualData(), done)
	x.scans("third", shown(1), 110, 1)
	x.voids("fourth", 1, 110, done)
	if want := [][]byte{first, second, third, fourth}; !same(x.device.Records(), want) {
		t.Error("other records")
	}
	told := x.flash.Bytes()
	if !bytes.Equal(told[:48], head) {
		t.Error("other slots")
	}
	v := mustOpen(t, 3, x.paper.secret, flashOf(t, told))
	if !same(v.Records(), [][]byte{first, second, third, fourth}) {
		t.Error("other records, opened again")
	}
}

// refusesOpen holds that nothing is opened, and the flash stays as it is.
func refusesOpen(t *testing.T, name any, id int, d api.Num, f *flash.Flash, code api.Code) {
	t.Helper()
	var b []byte
	if f != nil {
		b = f.Bytes()
	}
	if v, err := Open(id, d, f); v != nil || err != error(code) {
		t.Error(name, id, d, v != nil, err)
	}
	if f != nil && !bytes.Equal(f.Bytes(), b) {
		t.Error(name, "the flash changed")
	}
}

// opens holds that a flash's device has those records, neither data nor a
// shift, and writes behind them.
func opens(t *testing.T, name any, id int, d api.Num, b []byte, l [][]byte) {
	t.Helper()
	f := flashOf(t, b)
	v := mustOpen(t, id, d, f)
	if !same(v.Records(), l) || !bytes.Equal(f.Bytes(), b) {
		t.Error(name, "other records", len(v.Records()), len(l))
	}
	if v.End() != api.ErrState {
		t.Error(name, "a shift is on")
	}
	if _, err := v.Scan(nil, maxMinute); err != api.ErrState {
		t.Error(name, err)
	}
	if err := v.Begin(usualStop, usualZone); err != nil {
		t.Error(name, err)
	}
	if verdict, err := v.Scan(shown(1), maxMinute); verdict != 3 || err != nil {
		t.Error(name, "has data", verdict, err)
	}
	if many := record.Chain(v.Records(), id, mustKey(t, d)); many != len(l)+1 {
		t.Error(name, "no chain any more", many, len(l))
	}
}

// P18.1: Open

func TestEachIdAboutItsEnds(t *testing.T) {
	for _, id := range []int{1, 2, 3, 1 << 30, maxSerial - 1, maxSerial} {
		opens(t, id, id, usualSecret(), make([]byte, plenty), nil)
	}
	for _, id := range []int{
		0, -1, -2, -maxSerial, maxSerial + 1, maxSerial + 2, 1<<32 + 1, 1<<32 + 3, math.MinInt + 1, math.MinInt, math.MaxInt,
	} {
		refusesOpen(t, "zeros", id, usualSecret(), flashOf(t, make([]byte, plenty)), api.ErrArg)
	}
}

func TestEachSecretAboutItsEnds(t *testing.T) {
	for _, d := range []api.Num{{1}, {2}, {0, 1}, {0, 0, 0, 1}, belowOrder()} {
		opens(t, d, usualId, d, make([]byte, plenty), nil)
	}
	for _, d := range []api.Num{{}, order(), aboveOrder(), greatest()} {
		refusesOpen(t, "zeros", usualId, d, flashOf(t, make([]byte, plenty)), api.ErrArg)
	}
}

func TestFlashesThatMayNotBe(t *testing.T) {
	refusesOpen(t, "nil", usualId, usualSecret(), nil, api.ErrArg)
	for size := 1; size < 64; size++ {
		refusesOpen(t, size, usualId, usualSecret(), flashOf(t, make([]byte, size)), api.ErrArg)
		refusesOpen(t, size, usualId, usualSecret(), flashOf(t, made(size)), api.ErrArg)
	}
}

func TestFlashesOfZeros(t *testing.T) {
	for _, size := range []int{64, 65, 100, plenty, 60000, 1048576} {
		x := fresh(t, size)
		x.ends(size, api.ErrState)
		x.refusesScan(size, nil, 0, api.ErrState)
	}
}

// TestWhichErrorOfOpenIsFirst goes through ids, secrets and flashes, each with
// each; a flash of another device alone is ErrForm.
func TestWhichErrorOfOpenIsFirst(t *testing.T) {
	others := flashBytes(plenty, chainOf(t, 4, usualSecret(), 1)...)
	for _, id := range []int{0, 1, 3, maxSerial, maxSerial + 1} {
		for _, d := range []api.Num{{}, {1}, belowOrder(), order(), greatest()} {
			wrong := id == 0 || id == maxSerial+1 || d == api.Num{} || d == order() || d == greatest()
			refusesOpen(t, "nil", id, d, nil, api.ErrArg)
			refusesOpen(t, "too small", id, d, flashOf(t, made(63)), api.ErrArg)
			f, code := flashOf(t, others), api.ErrForm
			if wrong {
				code = api.ErrArg
				refusesOpen(t, "zeros", id, d, flashOf(t, make([]byte, plenty)), api.ErrArg)
			}
			refusesOpen(t, "another's", id, d, f, code)
		}
	}
}

// linked are records of a device, linked and signed, so far as they aren't
// told otherwise by a change.
func linked(t *testing.T, id int, d api.Num, l []api.Record, change func(at int, r *api.Record)) [][]byte {
	t.Helper()
	var told [][]byte
	var last api.Digest
	for i, r := range l {
		r.Device, r.Seq, r.Prev = id, i, last
		if change != nil {
			change(i, &r)
		}
		w := signed(t, r, d)
		told, last = append(told, w.b), w.link
	}
	return told
}

// some are so many records of each kind.
func some(many int) []api.Record {
	var l []api.Record
	for i := range many {
		r := api.Record{At: 100 + i, Kind: 1 + i%3, Stop: i % 32, Zone: i % 8, Serial: i}
		if r.Kind == 1 {
			r.Verdict, r.Bytes = 1+i%7, made(i)
		}
		l = append(l, r)
	}
	return l
}

// chainOf is a chain of so many records.
func chainOf(t *testing.T, id int, d api.Num, many int) [][]byte {
	t.Helper()
	return linked(t, id, d, some(many), nil)
}

func TestFlashesOfThisDevice(t *testing.T) {
	for many := range 10 {
		l := chainOf(t, usualId, usualSecret(), many)
		opens(t, many, usualId, usualSecret(), flashBytes(plenty, l...), l)
	}
	for _, id := range []int{1, maxSerial} {
		for _, d := range []api.Num{{1}, belowOrder()} {
			l := chainOf(t, id, d, 4)
			opens(t, id, id, d, flashBytes(plenty, l...), l)
		}
	}
}

// refusesRecords holds that a flash with those records is of no device.
func refusesRecords(t *testing.T, name any, l ...[]byte) {
	t.Helper()
	refusesOpen(t, name, usualId, usualSecret(), flashOf(t, flashBytes(plenty, l...)), api.ErrForm)
}

func TestFlashesOfOthers(t *testing.T) {
	for many := 1; many <= 4; many++ {
		refusesRecords(t, "another device's", chainOf(t, 4, usualSecret(), many)...)
		refusesRecords(t, "another key's", chainOf(t, usualId, api.Num{78}, many)...)
		refusesRecords(t, "both", chainOf(t, 4, api.Num{78}, many)...)
		minus := belowOrder()
		minus[0] -= 76 // its key has the same X
		refusesRecords(t, "the key's other Y", chainOf(t, usualId, minus, many)...)
	}
}

// TestRecordsThatAreNoChain has one fault at each place, all else as good as
// it can be.
func TestRecordsThatAreNoChain(t *testing.T) {
	good := chainOf(t, usualId, usualSecret(), 5)
	another := chainOf(t, 4, usualSecret(), 5)
	for at := range 5 {
		changes := map[string]func(r *api.Record){
			"another device": func(r *api.Record) { r.Device = 4 },
			"a Seq skipped":  func(r *api.Record) { r.Seq++ },
			"a Seq twice":    func(r *api.Record) { r.Seq = max(0, r.Seq-1) },
			"another's Prev": func(r *api.Record) { r.Prev = api.Digest{1} },
			"a Prev's bit":   func(r *api.Record) { r.Prev[31] ^= 1 },
			"no Prev":        func(r *api.Record) { r.Prev = api.Digest{} },
			"may not be":     func(r *api.Record) { r.Zone = 8 },
		}
		for name, change := range changes {
			if at == 0 && (name == "a Seq twice" || name == "no Prev") {
				continue // that is as it should be
			}
			l := linked(t, usualId, usualSecret(), some(5), func(i int, r *api.Record) {
				if i == at {
					change(r)
				}
			})
			refusesRecords(t, name, l...)
			refusesRecords(t, name, l[:at+1]...)
		}
		refusesRecords(t, "Seqs skipped from one on", linked(t, usualId, usualSecret(), some(5), func(i int, r *api.Record) {
			if i >= at {
				r.Seq++
			}
		})...)
		refusesRecords(t, "another device's", slices.Concat(good[:at], another[at:])...)
		refusesRecords(t, "doesn't open", slices.Concat(good[:at], [][]byte{[]byte("x")}, good[at+1:])...)
		refusesRecords(t, "doesn't open, behind all", slices.Concat(good[:at], [][]byte{{0}})...)
		refusesRecords(t, "another signature", slices.Concat(good[:at], [][]byte{otherSigned(good[at])}, good[at+1:])...)
		if at > 0 {
			refusesRecords(t, "without the first ones", good[at:]...)
			refusesRecords(t, "the first one twice", slices.Concat(good[:at], good)...)
		}
	}
}

// otherSigned is a signed record with a bit of the signature's last byte turned.
func otherSigned(b []byte) []byte {
	b = slices.Clone(b)
	b[len(b)-1] ^= 1
	return b
}

// opensAsTold holds that bytes open just if the journal's records are a chain.
func opensAsTold(t *testing.T, name any, b []byte) {
	t.Helper()
	f := flashOf(t, b)
	j, err := journal.Open(f)
	if err != nil {
		t.Fatal(name, err)
	}
	l := j.Records()
	if record.Chain(l, usualId, mustKey(t, usualSecret())) != len(l) {
		refusesOpen(t, name, usualId, usualSecret(), f, api.ErrForm)
		return
	}
	v := mustOpen(t, usualId, usualSecret(), f)
	if !same(v.Records(), l) || !bytes.Equal(f.Bytes(), b) {
		t.Error(name, "other records")
	}
}

func TestFlashesWithAByteChanged(t *testing.T) {
	t.Parallel()
	good := flashBytes(470, chainOf(t, usualId, usualSecret(), 2)...)
	opensAsTold(t, "as it is", good)
	for at := range good {
		b := slices.Clone(good)
		b[at] ^= 1 << (at % 8)
		opensAsTold(t, at, b)
	}
}

func TestFlashesOfAnyBytes(t *testing.T) {
	t.Parallel()
	r := rand.New(rand.NewPCG(18, 1))
	good := area(chainOf(t, usualId, usualSecret(), 2))
	for i := range 300 {
		b := make([]byte, 64+r.IntN(700))
		for at := range b {
			b[at] = byte(r.IntN(256))
		}
		opensAsTold(t, i, b)
		copy(b[slots:], good)
		turn, end, slot := 1+r.Uint64N(10), r.Uint64N(uint64(len(b)-slots+1)), b[r.IntN(2)*24:]
		for at, x := range []uint64{turn, end, turn} {
			binary.BigEndian.PutUint64(slot[at*8:], x)
		}
		opensAsTold(t, i, b)
	}
}

// TestAnyRecordsOfAChain may stand on a flash, whatever this device would have
// written: its time is the last one's At alone, and a Notice, or a Void, is one
// wherever it stands, and whatever it is of.
func TestAnyRecordsOfAChain(t *testing.T) {
	l := linked(t, usualId, usualSecret(), []api.Record{
		{At: 300, Kind: 3, Serial: 2},             // a Void of what is no Notice yet
		{At: 200, Kind: 2, Serial: 9},             // a Notice of nothing
		{At: 400, Kind: 2, Serial: 1},             // the Notice that is voided ahead of it
		{At: 100, Kind: 1, Verdict: 4, Serial: 1}, // its Serial is a ticket's
		{At: 90, Kind: 3, Serial: 3},              // a Void of an Inspect
		{At: 80, Kind: 1, Verdict: 6, Serial: 5},
	}, nil)
	f := flashOf(t, flashBytes(plenty, l...))
	v := mustOpen(t, usualId, usualSecret(), f)
	if err := v.Begin(0, 0); err != nil {
		t.Error(err)
	}
	for _, c := range []struct {
		seq, at int
		code    api.Code
	}{
		{1, 79, api.ErrTime}, {0, 80, api.ErrNone}, {2, 80, api.ErrTwice}, {3, 80, api.ErrNone}, {4, 80, api.ErrNone},
		{5, 80, api.ErrNone}, {6, 80, api.ErrNone}, {9, 80, api.ErrNone},
	} {
		if err := v.Void(c.seq, c.at); err != error(c.code) {
			t.Error(c, err)
		}
	}
	if err := v.Notice(79); err != api.ErrTime {
		t.Error(err)
	}
	if err := v.Notice(80); err != nil {
		t.Error(err)
	}
	if err := v.Void(1, 85); err != nil {
		t.Error(err)
	}
	if err := v.Void(6, 85); err != nil {
		t.Error(err)
	}
	if told := v.Records(); len(told) != 9 || record.Chain(told, usualId, mustKey(t, usualSecret())) != 9 {
		t.Error(len(told))
	}
}

// TestANoticeThatIsTheFirstRecord is voided, too.
func TestANoticeThatIsTheFirstRecord(t *testing.T) {
	l := linked(t, usualId, usualSecret(), []api.Record{{At: 10, Kind: 2}}, nil)
	v := mustOpen(t, usualId, usualSecret(), flashOf(t, flashBytes(plenty, l...)))
	if err := v.Begin(0, 0); err != nil {
		t.Error(err)
	}
	if err := v.Notice(10); err != api.ErrState {
		t.Error(err)
	}
	for _, want := range []error{nil, api.ErrTwice} {
		if err := v.Void(0, 10); err != want {
			t.Error(want, err)
		}
	}
	if told := v.Records(); record.Chain(told, usualId, mustKey(t, usualSecret())) != 2 {
		t.Error(len(told))
	}
}

// P18.1: Records

func TestRecordsOfNoneAndOfMany(t *testing.T) {
	x := working(t, 20000)
	if l := x.device.Records(); len(l) != 0 {
		t.Error(len(l))
	}
	for i := range 60 {
		x.shows(1+i%7, usualAt)
		if l := x.device.Records(); len(l) != i+1 {
			t.Error(i, len(l))
		}
	}
	x.isChain("many")
	x.opensAgain("many")
	x.isChain("many, opened again")
}

func TestRecordsAreNewMemory(t *testing.T) {
	x := working(t, plenty)
	for verdict := 1; verdict <= 7; verdict++ {
		x.shows(verdict, usualAt)
	}
	for range 2 {
		told, other := x.device.Records(), x.device.Records()
		for i, b := range told {
			_ = append(b, 0xee, 0xee, 0xee)
			if i+1 < len(told) && !bytes.Equal(told[i+1], other[i+1]) {
				t.Error("a list runs into the next one", i)
			}
			for at := range b {
				b[at] ^= 0xff
			}
			told[i] = nil
		}
		if !same(other, x.paper.signed()) {
			t.Error("two answers share memory")
		}
		x.isAsPaper("changed behind the call")
		x.tears(2, 5)
		x.refusesScan("cut off", nil, usualAt, api.ErrState)
	}
}
