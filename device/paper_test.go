package device

import (
	"bytes"
	"encoding/binary"
	"slices"
	"sync"
	"testing"

	"clapper/api"
	"clapper/fare"
	"clapper/flash"
	"clapper/keys"
	"clapper/limb"
	"clapper/record"
	"clapper/revoke"
	"clapper/sha"
	"clapper/sign"
	"clapper/ticket"
)

const (
	maxSerial = 2147483647
	maxMinute = 1073741824
	maxShown  = 500
	plenty    = 5000 // bytes of a flash with room for all that a test writes
	slots     = 48   // bytes ahead of the area
	frame     = 196  // bytes of a signed record beside what was shown

	done api.Code = 0 // no error
)

// paper is a device by the chapter's words, with its flash's bytes written out.
type paper struct {
	id         int
	secret     api.Num
	data       api.Data
	on         bool
	stop, zone int
	torn       bool
	step, n    int
	spoilt     bool
	whole      bool // of a spoilt one: the last slot was written whole
	late       written
	all        []written
	bytes      []byte
}

// written is a record, its link, and its signed bytes.
type written struct {
	r    api.Record
	link api.Digest
	b    []byte
}

func newPaper(id int, d api.Num, size int) *paper {
	return &paper{id: id, secret: d, bytes: make([]byte, size)}
}

func (p *paper) openAgain() {
	if p.spoilt && p.whole {
		p.all = append(p.all, p.late)
	}
	*p = paper{id: p.id, secret: p.secret, all: p.all, bytes: p.bytes}
}

func (p *paper) load(x api.Data) api.Code {
	if !keys.May(x.Keys) || !revoke.May(x.Revoked) || !fare.May(x.Products) {
		return api.ErrArg
	}
	p.data = clone(x)
	return done
}

func (p *paper) begin(stop, zone int) api.Code {
	for s := range 32 {
		for z := range 8 {
			if stop == s && zone == z {
				p.on, p.stop, p.zone = true, s, z
				return done
			}
		}
	}
	return api.ErrArg
}

func (p *paper) end() api.Code {
	if !p.on {
		return api.ErrState
	}
	p.on = false
	return done
}

// isNoTime is the error of a minute at which nothing may be written.
func (p *paper) isNoTime(at int) api.Code {
	if at < 0 || at > maxMinute {
		return api.ErrArg
	}
	if many := len(p.all); many > 0 && at < p.all[many-1].r.At {
		return api.ErrTime
	}
	return done
}

func (p *paper) scan(t *testing.T, b []byte, at int) (int, api.Code) {
	if !p.on {
		return 0, api.ErrState
	}
	if len(b) > maxShown {
		return 0, api.ErrArg
	}
	if code := p.isNoTime(at); code != done {
		return 0, code
	}
	verdict, err := fare.Verdict(p.data.Keys, p.data.Revoked, p.data.Products, b, p.zone, at)
	if err != nil {
		t.Fatal("Verdict", err)
	}
	r := api.Record{At: at, Kind: 1, Verdict: verdict, Bytes: slices.Clone(b)}
	if x, _, err := ticket.Open(b); err == nil {
		r.Serial = x.Serial
	}
	if code := p.write(t, r); code != done {
		return 0, code
	}
	return verdict, done
}

func (p *paper) notice(t *testing.T, at int) api.Code {
	if !p.on || len(p.all) == 0 {
		return api.ErrState
	}
	last := p.all[len(p.all)-1].r
	if last.Kind != 1 || last.Verdict == 1 {
		return api.ErrState
	}
	if code := p.isNoTime(at); code != done {
		return code
	}
	return p.write(t, api.Record{At: at, Kind: 2, Serial: len(p.all) - 1})
}

func (p *paper) void(t *testing.T, seq, at int) api.Code {
	if !p.on {
		return api.ErrState
	}
	if code := p.isNoTime(at); code != done {
		return code
	}
	code := api.ErrNone
	for i, w := range p.all {
		if w.r.Kind == 2 && i == seq {
			code = done
		}
	}
	for _, w := range p.all {
		if w.r.Kind == 3 && w.r.Serial == seq && code == done {
			code = api.ErrTwice
		}
	}
	if code != done {
		return code
	}
	return p.write(t, api.Record{At: at, Kind: 3, Serial: seq})
}

func (p *paper) tear(step, n int) { p.torn, p.step, p.n = true, step, n }

// write makes a record up, and writes as many bytes of both steps as it should.
func (p *paper) write(t *testing.T, r api.Record) api.Code {
	if p.spoilt {
		return api.ErrState
	}
	r.Device, r.Seq, r.Stop, r.Zone = p.id, len(p.all), p.stop, p.zone
	if r.Seq > 0 {
		r.Prev = p.all[r.Seq-1].link
	}
	w := signed(t, r, p.secret)
	first, second := steps(p.signed(), w.b)
	at := slots + len(area(p.signed()))
	if at+len(first) > len(p.bytes) {
		return api.ErrFull
	}
	ofFirst, ofSecond := len(first), len(second)
	if p.torn && p.step == 1 {
		ofFirst, ofSecond = inside(p.n, ofFirst), 0
	} else if p.torn {
		ofSecond = inside(p.n, ofSecond)
	}
	for i, x := range first[:ofFirst] {
		p.bytes[at+i] = x
	}
	for i, x := range second[:ofSecond] {
		p.bytes[(len(p.all)+1)%2*24+i] = x
	}
	if p.torn {
		p.spoilt, p.whole, p.late = true, ofSecond == 24, w
		return api.ErrState
	}
	p.all = append(p.all, w)
	return done
}

// inside is n, or what it counts as, if there are so many bytes.
func inside(n, all int) int {
	if n < 0 {
		return 0
	}
	if n > all {
		return all
	}
	return n
}

// signed are the signed records.
func (p *paper) signed() [][]byte {
	var l [][]byte
	for _, w := range p.all {
		l = append(l, w.b)
	}
	return l
}

// area are records, each behind its length.
func area(l [][]byte) []byte {
	var b []byte
	for _, r := range l {
		b = append(binary.BigEndian.AppendUint16(b, uint16(len(r))), r...)
	}
	return b
}

// steps are what appending one more record writes: it, and a slot.
func steps(l [][]byte, r []byte) (first, second []byte) {
	first = area([][]byte{r})
	turn, end := uint64(len(l)+1), uint64(len(area(l))+len(first))
	for _, x := range []uint64{turn, end, turn} {
		second = binary.BigEndian.AppendUint64(second, x)
	}
	return first, second
}

// flashBytes are a flash's of so many bytes, to which records were appended.
func flashBytes(size int, l ...[]byte) []byte {
	b := make([]byte, size)
	for i, r := range l {
		_, slot := steps(l[:i], r)
		copy(b[(i+1)%2*24:], slot)
	}
	copy(b[slots:], area(l))
	return b
}

// value is a field's bytes.
func value(tag int, b []byte) []byte {
	return append(binary.BigEndian.AppendUint16([]byte{byte(tag)}, uint16(len(b))), b...)
}

func body(r api.Record) []byte {
	var b []byte
	for i, number := range []int{r.Device, r.Seq, r.At, r.Kind, r.Stop, r.Zone, r.Serial, r.Verdict} {
		b = append(b, value(i+1, binary.BigEndian.AppendUint64(nil, uint64(number)))...)
	}
	return slices.Concat(b, value(9, r.Prev[:]), value(10, r.Bytes))
}

// signatures keeps what was made, as it takes its time.
var signatures sync.Map

// signed signs a record, may it be or not.
func signed(t *testing.T, r api.Record, d api.Num) written {
	t.Helper()
	type key struct {
		link api.Digest
		d    api.Num
	}
	b := body(r)
	link := sha.Sum(b)
	told, ok := signatures.Load(key{link, d})
	if !ok {
		s, err := sign.Sign(d, link)
		if err != nil {
			t.Fatal("Sign", d, err)
		}
		told = s
		signatures.Store(key{link, d}, told)
	}
	s := told.(api.Sig)
	return written{r, link, slices.Concat(value(1, b), value(2, slices.Concat(limb.Bytes(s.R), limb.Bytes(s.S))))}
}

// both is a device, and the paper that it is held against in all it does.
type both struct {
	*testing.T
	device *Device
	paper  *paper
	flash  *flash.Flash
}

const usualId = 3

func usualSecret() api.Num { return api.Num{77} }

// fresh is a device on a flash of so many bytes 0.
func fresh(t *testing.T, size int) *both { return freshOf(t, usualId, usualSecret(), size) }

func freshOf(t *testing.T, id int, d api.Num, size int) *both {
	t.Helper()
	f := flashOf(t, make([]byte, size))
	x := &both{t, mustOpen(t, id, d, f), newPaper(id, d, size), f}
	x.isAsPaper("fresh")
	return x
}

// working is a fresh one with the usual data, in a shift.
func working(t *testing.T, size int) *both {
	t.Helper()
	x := fresh(t, size)
	x.loads("usual", usualData(), done)
	x.begins("usual", usualStop, usualZone, done)
	return x
}

func flashOf(t *testing.T, b []byte) *flash.Flash {
	t.Helper()
	f, err := flash.Of(b)
	if err != nil {
		t.Fatal(len(b), err)
	}
	return f
}

func mustOpen(t *testing.T, id int, d api.Num, f *flash.Flash) *Device {
	t.Helper()
	v, err := Open(id, d, f)
	if err != nil || v == nil {
		t.Fatal("Open", id, d, err)
	}
	return v
}

func mustKey(t *testing.T, d api.Num) api.Point {
	t.Helper()
	q, err := sign.Public(d)
	if err != nil {
		t.Fatal("Public", d, err)
	}
	return q
}

func same(a, b [][]byte) bool { return slices.EqualFunc(a, b, bytes.Equal) }

// codeOf is an error's number, if it is one of api's itself.
func codeOf(t *testing.T, name any, err error) api.Code {
	t.Helper()
	if err == nil {
		return done
	}
	code, ok := err.(api.Code)
	if !ok || code == done {
		t.Error(name, "no error of api's", err)
	}
	return code
}

// isAsPaper holds that the records, and the flash, are as the paper says.
func (x *both) isAsPaper(name any) {
	x.Helper()
	if told := x.device.Records(); !same(told, x.paper.signed()) {
		x.Error(name, "other records", len(told), len(x.paper.all))
	}
	if !bytes.Equal(x.flash.Bytes(), x.paper.bytes) {
		x.Error(name, "other bytes on the flash")
	}
}

// isChain holds that the records are one, whole.
func (x *both) isChain(name any) {
	x.Helper()
	l := x.device.Records()
	if many := record.Chain(l, x.paper.id, mustKey(x.T, x.paper.secret)); many != len(l) {
		x.Error(name, "of", len(l), "are a chain", many)
	}
}

// isLast holds that as many records are there, and the last one is that.
func (x *both) isLast(name any, many int, want api.Record) {
	x.Helper()
	l := x.device.Records()
	if len(l) != many {
		x.Fatal(name, len(l))
	}
	r, err := record.Check(l[many-1], mustKey(x.T, x.paper.secret))
	if err != nil || !bytes.Equal(body(r), body(want)) {
		x.Error(name, r, err)
	}
}

// link is the one of the record of a Seq.
func (x *both) link(seq int) api.Digest { return x.paper.all[seq].link }

// is holds that a call told what the paper did, and what the test asks for.
func (x *both) is(name any, call string, err error, paper, want api.Code) {
	x.Helper()
	if code := codeOf(x.T, name, err); code != paper || paper != want {
		x.Error(name, call, "told", code, "paper", paper, "test", want)
	}
	x.isAsPaper(name)
}

func (x *both) loads(name any, data api.Data, want api.Code) {
	x.Helper()
	x.is(name, "Load", x.device.Load(data), x.paper.load(data), want)
}

func (x *both) begins(name any, stop, zone int, want api.Code) {
	x.Helper()
	x.is(name, "Begin", x.device.Begin(stop, zone), x.paper.begin(stop, zone), want)
}

func (x *both) ends(name any, want api.Code) {
	x.Helper()
	x.is(name, "End", x.device.End(), x.paper.end(), want)
}

// scans asks for a verdict, and refusesScan for an error.
func (x *both) scans(name any, b []byte, at, want int) {
	x.Helper()
	verdict, err := x.device.Scan(b, at)
	paper, code := x.paper.scan(x.T, b, at)
	if verdict != want || paper != want {
		x.Error(name, "Scan told", verdict, "paper", paper, "test", want)
	}
	x.is(name, "Scan", err, code, done)
}

func (x *both) refusesScan(name any, b []byte, at int, want api.Code) {
	x.Helper()
	verdict, err := x.device.Scan(b, at)
	if verdict != 0 {
		x.Error(name, "Scan told", verdict)
	}
	_, code := x.paper.scan(x.T, b, at)
	x.is(name, "Scan", err, code, want)
}

func (x *both) notices(name any, at int, want api.Code) {
	x.Helper()
	x.is(name, "Notice", x.device.Notice(at), x.paper.notice(x.T, at), want)
}

func (x *both) voids(name any, seq, at int, want api.Code) {
	x.Helper()
	x.is(name, "Void", x.device.Void(seq, at), x.paper.void(x.T, seq, at), want)
}

func (x *both) tears(step, n int) {
	x.Helper()
	x.device.Tear(step, n)
	x.paper.tear(step, n)
	x.isAsPaper("Tear")
}

// opensAgain opens the device again on its flash.
func (x *both) opensAgain(name any) {
	x.Helper()
	v, err := Open(x.paper.id, x.paper.secret, x.flash)
	if err != nil {
		x.Fatal(name, "Open", err)
	}
	x.device = v
	x.paper.openAgain()
	x.isAsPaper(name)
}

// atWork opens it again, with the usual data, in the usual shift.
func (x *both) atWork(name any) {
	x.Helper()
	x.opensAgain(name)
	x.loads(name, usualData(), done)
	x.begins(name, usualStop, usualZone, done)
}

// What most tests go by: data, a shift's place and a minute, and what is shown.
const (
	usualStop = 5
	usualZone = 1
	usualAt   = 120
)

func daily() api.Service { return api.Service{Week: 127, To: 1048576} }

func usualData() api.Data {
	return api.Data{
		Keys:     []api.Key{{Id: 1, Q: officeKey(), To: maxMinute}},
		Revoked:  []api.Revoked{{Serial: 8, From: 50}},
		Products: []api.Product{{Id: 2, Minutes: 60, Service: daily()}},
	}
}

// officeKey is the one of secret 5.
var officeKey = sync.OnceValue(func() api.Point {
	q, err := sign.Public(api.Num{5})
	if err != nil {
		panic(err)
	}
	return q
})

func clone(x api.Data) api.Data {
	x.Keys, x.Revoked, x.Products = slices.Clone(x.Keys), slices.Clone(x.Revoked), slices.Clone(x.Products)
	for i := range x.Products {
		s := &x.Products[i].Service
		s.Extra, s.Except = slices.Clone(s.Extra), slices.Clone(s.Except)
	}
	return x
}

func issue(x api.Ticket, d uint64) []byte {
	b, err := ticket.Issue(x, api.Num{d})
	if err != nil {
		panic(err)
	}
	return b
}

// showing is what is shown, and the verdict and the Serial that it is written
// down with, by the usual data, in the usual zone at the usual minute.
type showing struct {
	b               []byte
	verdict, serial int
}

// showings are those of each verdict, at its place.
var showings = sync.OnceValue(func() [8]showing {
	good := api.Ticket{Serial: 7, Product: 2, Zones: 3, From: 100, Key: 1}
	elsewhere, later, unsold := good, good, good
	elsewhere.Serial, elsewhere.Zones = 10, 4
	later.Serial, later.From = 11, 200
	unsold.Serial, unsold.Product = 12, 3
	foreign, gone := good, good
	foreign.Serial, gone.Serial = 9, 8
	return [8]showing{
		1: {issue(good, 5), 1, 7},
		2: {[]byte("x"), 2, 0},
		3: {issue(foreign, 6), 3, 9},
		4: {issue(gone, 5), 4, 8},
		5: {issue(elsewhere, 5), 5, 10},
		6: {issue(later, 5), 6, 11},
		7: {issue(unsold, 5), 7, 12},
	}
})

func shown(verdict int) []byte { return slices.Clone(showings()[verdict].b) }

// shows shows what has that verdict.
func (x *both) shows(verdict, at int) {
	x.Helper()
	x.scans(verdict, shown(verdict), at, verdict)
}

// made are n bytes, unlike what is beside them.
func made(n int) []byte {
	b := make([]byte, n)
	for i := range b {
		b[i] = byte(7*i + 1)
	}
	return b
}
