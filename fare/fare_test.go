package fare

import (
	"bytes"
	"encoding/binary"
	"encoding/hex"
	"maps"
	"math"
	"math/rand/v2"
	"reflect"
	"slices"
	"strconv"
	"strings"
	"testing"

	"clapper/api"
	"clapper/keys"
	"clapper/revoke"
	"clapper/service"
	"clapper/sign"
	"clapper/ticket"
)

const (
	day        = 1440
	maxSerial  = 2147483647
	maxMinute  = 1073741824
	greatDay   = 1048576 // 2^20
	great      = 1048576 // the most Minutes that a product has
	lastDay    = 745654  // MaxMinute's: it is minute 64 of it
	secret     = 5
	otherOne   = 6 // a secret of nobody's
	usualZone  = 1
	usualStart = 3*day + 100
	usualAt    = usualStart + 20
)

// otherMay goes by the chapter's words, one by one.
func otherMay(l []api.Product) bool {
	for i, p := range l {
		if i == 16 || p.Id < 1 || p.Id > 16 || !service.May(p.Service) {
			return false
		}
		if p.Minutes < 1 || p.Minutes > great {
			return false
		}
		for _, before := range l[:i] {
			if before.Id >= p.Id {
				return false
			}
		}
	}
	return true
}

// bits are the zones' ones.
func bits() []int { return []int{1, 2, 4, 8, 16, 32, 64, 128} }

func isOne(zone, at int) bool { return 0 <= zone && zone <= 7 && 0 <= at && at <= maxMinute }

// otherCovers goes by the chapter's words, one by one.
func otherCovers(l []api.Product, x api.Ticket, zone, at int) bool {
	if !otherMay(l) || !ticket.May(x) || !isOne(zone, at) || x.Zones&bits()[zone] == 0 {
		return false
	}
	for _, p := range l {
		if p.Id == x.Product {
			return !(x.From > at) && x.From+p.Minutes > at && service.Runs(p.Service, at/day)
		}
	}
	return false
}

// otherVerdict likewise.
func otherVerdict(k []api.Key, r []api.Revoked, l []api.Product, b []byte, zone, at int) (int, error) {
	if !keys.May(k) || !revoke.May(r) || !otherMay(l) || !isOne(zone, at) {
		return 0, api.ErrArg
	}
	x, _, err := ticket.Open(b)
	if err != nil {
		return 2, nil
	}
	if _, err := keys.Check(k, b, at); err != nil {
		return 3, nil
	}
	if revoke.Is(r, x.Serial, at) {
		return 4, nil
	}
	if !slices.ContainsFunc(l, func(p api.Product) bool { return p.Id == x.Product }) {
		return 7, nil
	}
	if x.Zones&bits()[zone] == 0 {
		return 5, nil
	}
	if !otherCovers(l, x, zone, at) {
		return 6, nil
	}
	return 1, nil
}

// daily runs on each day ahead of day 2^20.
func daily() api.Service { return api.Service{Week: 127, To: greatDay} }

// but runs on each day that isn't one of those.
func but(days ...int) api.Service {
	s := daily()
	s.Except = days
	return s
}

// on runs on some days alone.
func on(days ...int) api.Service { return api.Service{Extra: days} }

func product(id, minutes int) api.Product {
	return api.Product{Id: id, Minutes: minutes, Service: daily()}
}

func running(id, minutes int, s api.Service) api.Product {
	return api.Product{Id: id, Minutes: minutes, Service: s}
}

// ids are products of an hour, with those Ids.
func ids(l ...int) []api.Product {
	var told []api.Product
	for _, id := range l {
		told = append(told, product(id, 60))
	}
	return told
}

// many are products with the Ids from 1 on.
func many(n int) []api.Product {
	var l []int
	for i := range n {
		l = append(l, i+1)
	}
	return ids(l...)
}

// with is a copy of a list with another one at a place.
func with[T any](l []T, at int, other T) []T {
	l = slices.Clone(l)
	l[at] = other
	return l
}

// usual is of product 2, in zones 0 and 1, of an hour, if by ids.
func usual() api.Ticket {
	return api.Ticket{Serial: 7, Product: 2, Zones: 3, From: usualStart, Key: 1}
}

// changed is the usual ticket with something changed.
func changed(change func(x *api.Ticket)) api.Ticket {
	x := usual()
	change(&x)
	return x
}

// from is the usual ticket, from a minute on.
func from(minute int) api.Ticket { return changed(func(x *api.Ticket) { x.From = minute }) }

// inZones is the usual ticket, with those Zones.
func inZones(zones int) api.Ticket { return changed(func(x *api.Ticket) { x.Zones = zones }) }

// publics and issued keep what was made, as it takes its time.
var (
	publics = map[uint64]api.Point{}
	issued  = map[signing][]byte{}
)

type signing struct {
	x api.Ticket
	d uint64
}

func public(d uint64) api.Point {
	q, ok := publics[d]
	if !ok {
		var err error
		if q, err = sign.Public(api.Num{d}); err != nil {
			panic(err)
		}
		publics[d] = q
	}
	return q
}

// counts is the key of secret, as key 1, which counts ahead of MaxMinute.
func counts() []api.Key { return []api.Key{{Id: 1, Q: public(secret), To: maxMinute}} }

func issue(t *testing.T, x api.Ticket, d uint64) []byte {
	t.Helper()
	b, ok := issued[signing{x, d}]
	if !ok {
		var err error
		if b, err = ticket.Issue(x, api.Num{d}); err != nil {
			t.Fatal("Issue", x, d, err)
		}
		issued[signing{x, d}] = b
	}
	return bytes.Clone(b)
}

// told is a ticket of secret 5, as a program outside the project signed it:
// serial 7, product 2, zones 0 and 1, from minute 100 on, key 1.
func told() []byte {
	b, err := hex.DecodeString(strings.Join(strings.Fields(`
		01 00 37
			01 00 08 00 00 00 00 00 00 00 07
			02 00 08 00 00 00 00 00 00 00 02
			03 00 08 00 00 00 00 00 00 00 03
			04 00 08 00 00 00 00 00 00 00 64
			05 00 08 00 00 00 00 00 00 00 01
		02 00 40
			62f806fdd4b4599220c4b671454761101aa7409d9e5e43fdd9e5673cb9c8bf76
			ad4d05b11ce02f52631e3d9495d4a7ee0aca86261a469301fed608b5e6faa64d`), ""))
	if err != nil {
		panic(err)
	}
	return b
}

// withNumber is a signed ticket's bytes with another number, from 0 on, in its body.
func withNumber(b []byte, place, number int) []byte {
	b = bytes.Clone(b)
	binary.BigEndian.PutUint64(b[6+11*place:], uint64(number))
	return b
}

// rightProducts may be.
func rightProducts() map[string][]api.Product {
	told := map[string][]api.Product{
		"nil":             nil,
		"empty":           {},
		"with room":       many(3)[:0],
		"Id 1":            ids(1),
		"Id 2":            ids(2),
		"Id 16":           ids(16),
		"both ends":       ids(1, 16),
		"apart":           ids(2, 3, 9, 15),
		"one fewer":       many(15),
		"MaxProducts":     many(16),
		"Minutes 1":       {product(2, 1)},
		"Minutes 2":       {product(2, 2)},
		"Minutes a day":   {product(2, day)},
		"Minutes 2^20":    {product(2, great)},
		"one less":        {product(2, great-1)},
		"falling Minutes": {product(1, great), product(2, 60), product(3, 1)},
		"never runs":      {running(2, 60, api.Service{})},
		"on some days":    {running(2, 60, on(0, 3, greatDay))},
		"not on some":     {running(2, 60, but(0, 4, greatDay))},
		"of one service":  {running(1, 60, on(3)), running(2, 90, on(3)), running(3, 60, on(3))},
	}
	days := make([]int, 100)
	for i := range days {
		days[i] = i
	}
	told["MaxDays"] = []api.Product{running(1, 60, on(days...)), running(2, 60, but(days[4:]...))}
	return told
}

// wrongServices may not be, though they look as if they ran.
func wrongServices() map[string]api.Service {
	return map[string]api.Service{
		"Week -1":      {Week: -1, To: 9},
		"Week 128":     {Week: 128, To: 9},
		"Week 255":     {Week: 255, To: 9},
		"From -1":      {Week: 127, From: -1, To: 9},
		"To too great": {Week: 127, To: greatDay + 1},
		"To low":       {Week: 127, From: 9, To: 8, Extra: []int{3}},
		"day -1":       {Week: 127, To: 9, Extra: []int{-1}},
		"a great day":  {Week: 127, To: 9, Except: []int{greatDay + 1}},
		"falls":        {Week: 127, To: 9, Except: []int{6, 5}},
		"twice":        {Week: 127, To: 9, Extra: []int{3, 3}},
		"in both":      {Week: 127, To: 9, Extra: []int{3}, Except: []int{3}},
		"too many":     {Week: 127, To: 9, Extra: make([]int, 101)},
	}
}

// wrongIds may not be, though the usual ticket's product is often among them.
func wrongIds() map[string][]int {
	return map[string][]int{
		"Id 0":             {0},
		"Id 0, then 2":     {0, 2},
		"Id -1":            {-1, 2},
		"a low Id":         {math.MinInt, 2},
		"Id 17":            {17},
		"2, then Id 17":    {2, 17},
		"a great Id":       {2, math.MaxInt},
		"Id 2^32 + 2":      {2, 1<<32 + 2},
		"zero ones":        {0, 0, 0},
		"twice":            {2, 2},
		"twice, 1":         {1, 1, 2},
		"twice, 16":        {2, 16, 16},
		"twice, head":      {2, 2, 3, 4},
		"twice, middle":    {1, 2, 2, 3},
		"twice, end":       {1, 2, 3, 3},
		"twice, apart":     {2, 3, 2},
		"falls":            {2, 1},
		"falls, head":      {3, 2, 4, 5},
		"falls, middle":    {2, 4, 3, 5},
		"falls, end":       {2, 3, 5, 4},
		"falls throughout": {9, 7, 5, 2, 1},
		"falls to 0":       {1, 2, 0},
		"one more, rising": {1, 2, 3, 4, 5, 6, 7, 8, 9, 10, 11, 12, 13, 14, 15, 16, 17},
		"one more, from 0": {0, 1, 2, 3, 4, 5, 6, 7, 8, 9, 10, 11, 12, 13, 14, 15, 16},
		"one more, twice":  {1, 2, 3, 4, 5, 6, 7, 8, 9, 10, 11, 12, 13, 14, 15, 16, 16},
		"one more, back":   {1, 2, 3, 4, 5, 6, 7, 8, 9, 10, 11, 12, 13, 14, 15, 16, 1},
		"many zero ones":   make([]int, 500),
	}
}

// wrongProducts may not be.
func wrongProducts() map[string][]api.Product {
	told := map[string][]api.Product{"a zero one": {{}}, "many of one": slices.Repeat(ids(2), 5000)}
	for name, l := range wrongIds() {
		told[name] = ids(l...)
	}
	for place, where := range []string{"head", "middle", "end"} {
		for _, minutes := range []int{0, -1, -60, math.MinInt, great + 1, 1 << 32, 1<<32 + 60, math.MaxInt} {
			told["Minutes "+strconv.Itoa(minutes)+", "+where] = with(many(3), place, product(place+1, minutes))
		}
		for name, s := range wrongServices() {
			told[name+", "+where] = with(many(3), place, running(place+1, 60, s))
		}
	}
	return told
}

// wrongTickets may not be.
func wrongTickets() map[string]api.Ticket {
	told := map[string]api.Ticket{"zero": {}}
	for _, n := range []int{math.MinInt, -1, 0, maxSerial + 1, 1<<32 + 7, math.MaxInt} {
		told["Serial "+strconv.Itoa(n)] = changed(func(x *api.Ticket) { x.Serial = n })
		told["Key "+strconv.Itoa(n)] = changed(func(x *api.Ticket) { x.Key = n })
	}
	for _, n := range []int{math.MinInt, -1, 0, 17, 1<<32 + 2, math.MaxInt} {
		told["Product "+strconv.Itoa(n)] = changed(func(x *api.Ticket) { x.Product = n })
	}
	for _, n := range []int{math.MinInt, -1, -253, 0, 256, 259, 1<<32 + 3, math.MaxInt} {
		told["Zones "+strconv.Itoa(n)] = inZones(n)
	}
	for _, n := range []int{math.MinInt, -1, maxMinute + 1, math.MaxInt - 60, math.MaxInt} {
		told["From "+strconv.Itoa(n)] = from(n)
	}
	return told
}

// wrongPlaces are zones and minutes of which one isn't one, or neither.
func wrongPlaces() [][2]int {
	var l [][2]int
	for _, zone := range []int{math.MinInt, -64, -1, 0, usualZone, 7, 8, 64, 65, 1 << 32, math.MaxInt} {
		for _, at := range []int{math.MinInt, -1, 0, usualAt, maxMinute, maxMinute + 1, 1 << 32, math.MaxInt} {
			if !isOne(zone, at) {
				l = append(l, [2]int{zone, at})
			}
		}
	}
	return l
}

func wrongKeys() map[string][]api.Key {
	one, another := counts()[0], api.Key{Id: 2, Q: public(otherOne), To: maxMinute}
	zero, low, long, off := one, one, one, one
	zero.Id, low.From, long.To, off.Q.X[0] = 0, -1, maxMinute+1, off.Q.X[0]+1
	return map[string][]api.Key{
		"Id 0":        {zero},
		"twice":       {one, one},
		"falls":       {another, one},
		"From -1":     {low},
		"To too late": {long},
		"off":         {one, {Id: 2, To: 9}},
		"off, first":  {off, another},
		"Far":         {one, {Id: 2, Q: api.Point{Far: true}, To: 9}},
		"too many":    slices.Repeat([]api.Key{one}, 33),
	}
}

func wrongRevoked() map[string][]api.Revoked {
	return map[string][]api.Revoked{
		"Serial 0":     {{Serial: 0}},
		"too great":    {{Serial: maxSerial + 1}},
		"twice":        {{Serial: 9}, {Serial: 9}},
		"falls":        {{Serial: 9}, {Serial: 8}},
		"From -1":      {{Serial: 9, From: -1}},
		"From too far": {{Serial: 9, From: maxMinute + 1}},
		"too many":     make([]api.Revoked, 201),
		"falls to 7":   {{Serial: 9}, {Serial: 7}},
	}
}

// covers and doesnt hold a ticket of which all may be against a verdict, too.
func covers(t *testing.T, name any, l []api.Product, x api.Ticket, zone, at int) {
	t.Helper()
	if !Covers(l, x, zone, at) || !otherCovers(l, x, zone, at) {
		t.Error(name, x, zone, at, "is not covered")
	}
}

func doesnt(t *testing.T, name any, l []api.Product, x api.Ticket, zone, at int) {
	t.Helper()
	if Covers(l, x, zone, at) || otherCovers(l, x, zone, at) {
		t.Error(name, x, zone, at, "is covered")
	}
}

// isCovered holds a ticket to be covered from a minute to another one alone,
// by what Covers says and by verdicts.
func isCovered(t *testing.T, name any, l []api.Product, x api.Ticket, first, last int) {
	t.Helper()
	b := issue(t, x, secret)
	for _, at := range []int{first - 1, first, first + 1, (first + last) / 2, last - 1, last, last + 1} {
		is := first <= at && at <= last
		if Covers(l, x, usualZone, at) != is || otherCovers(l, x, usualZone, at) != is {
			t.Error(name, x, at, "covers:", !is)
		}
		if at < 0 || at >= maxMinute {
			continue // at which no key counts
		}
		want := api.NoTime
		if is {
			want = api.Valid
		}
		says(t, name, counts(), nil, l, b, usualZone, at, want)
	}
}

func says(t *testing.T, name any, k []api.Key, r []api.Revoked, l []api.Product, b []byte, zone, at, want int) {
	t.Helper()
	if v, err := Verdict(k, r, l, b, zone, at); v != want || err != nil {
		t.Error(name, zone, at, "is", v, err, "for", want)
	}
}

func isRefused(t *testing.T, name any, k []api.Key, r []api.Revoked, l []api.Product, b []byte, zone, at int) {
	t.Helper()
	if v, err := Verdict(k, r, l, b, zone, at); v != 0 || err != error(api.ErrArg) {
		t.Error(name, zone, at, "is", v, err)
	}
}

// P14.1: May

func TestProductsThatMayBe(t *testing.T) {
	for name, l := range rightProducts() {
		if !May(l) || !otherMay(l) {
			t.Error(name)
		}
	}
}

func TestProductsThatMayNotBe(t *testing.T) {
	for name, l := range wrongProducts() {
		if May(l) || otherMay(l) {
			t.Error(name)
		}
	}
}

func TestHowManyProductsMayBe(t *testing.T) {
	for n := range 40 {
		if May(many(n)) != (n <= 16) {
			t.Error(n)
		}
		if n > 0 && May(many(n + 1)[1:]) != (n <= 15) {
			t.Error(n, "from 2 on")
		}
	}
}

func TestEachId(t *testing.T) {
	for id := -40; id <= 40; id++ {
		if May(ids(id)) != (1 <= id && id <= 16) {
			t.Error(id)
		}
	}
	for first := -1; first <= 18; first++ {
		for second := -1; second <= 18; second++ {
			if May(ids(first, second)) != (1 <= first && first < second && second <= 16) {
				t.Error(first, second)
			}
		}
	}
}

func TestEachMinutes(t *testing.T) {
	for n := -1500; n <= 3000; n++ {
		if May([]api.Product{product(2, n)}) != (n >= 1) {
			t.Error(n)
		}
		if May([]api.Product{product(2, great+n)}) != (n <= 0) {
			t.Error("2^20 and", n)
		}
	}
}

func TestAWrongProductAtEachPlace(t *testing.T) {
	for n := 1; n <= 16; n++ {
		for place := range n {
			for name, p := range map[string]api.Product{
				"Minutes 0": product(place+1, 0), "Minutes above": product(place+1, great+1),
				"Id 0": product(0, 60), "Id 17": product(17, 60),
				"the service": running(place+1, 60, api.Service{Week: 128, To: 9}),
			} {
				if May(with(many(n), place, p)) {
					t.Error(name, place, n)
				}
			}
			if twice := with(many(n), place, product(place, 60)); May(twice) {
				t.Error("twice, or 0", place, n)
			}
		}
	}
}

func TestMayAgainstAnotherWay(t *testing.T) {
	r := rand.New(rand.NewPCG(14, 1))
	var is [2]int
	for range 20000 {
		l := make([]api.Product, r.IntN(5))
		id := 0
		for i := range l {
			id += r.IntN(5)
			l[i] = running(id, r.IntN(9), api.Service{Week: r.IntN(129), From: r.IntN(3), To: 2 + r.IntN(9)})
			if r.IntN(4) > 0 {
				l[i].Minutes += great - 6
			}
		}
		want := otherMay(l)
		if May(l) != want {
			t.Fatal(l, want)
		}
		if want {
			is[1]++
		} else {
			is[0]++
		}
	}
	if is[0] < 2000 || is[1] < 2000 {
		t.Error("too few of one kind", is)
	}
}

// P14.1: Covers

func TestAUsualTicketIsCovered(t *testing.T) {
	isCovered(t, "an hour", ids(2), usual(), usualStart, usualStart+59)
	for name, l := range map[string][]api.Product{
		"first": ids(2, 3, 4), "in the middle": ids(1, 2, 16), "last": {product(1, 1), product(2, 60)}, "of all": many(16),
	} {
		isCovered(t, name, l, usual(), usualStart, usualStart+59)
	}
}

func TestProductsThatMayBeCoverByTheWords(t *testing.T) {
	for name, l := range rightProducts() {
		for id := 1; id <= 16; id++ {
			x := changed(func(x *api.Ticket) { x.Product = id })
			for at := usualStart - 3; at <= usualStart+2*day; at += 7 {
				if Covers(l, x, usualZone, at) != otherCovers(l, x, usualZone, at) {
					t.Error(name, id, at)
				}
			}
		}
	}
}

func TestProductsThatMayNotBeCoverNothing(t *testing.T) {
	for name, l := range wrongProducts() {
		for id := 1; id <= 16; id++ {
			doesnt(t, name, l, changed(func(x *api.Ticket) { x.Product = id }), usualZone, usualAt)
		}
	}
}

func TestTicketsThatMayNotBeAreNotCovered(t *testing.T) {
	lists := [][]api.Product{many(16), {product(1, great), product(2, great), product(16, great)}}
	for name, x := range wrongTickets() {
		for _, l := range lists {
			for _, at := range []int{0, usualAt, x.From, x.From + 1, maxMinute} {
				for zone := range 8 {
					doesnt(t, name, l, x, zone, at)
				}
			}
		}
	}
}

func TestTicketsAtBothEndsOfWhatMayBe(t *testing.T) {
	for _, serial := range []int{1, maxSerial} {
		for _, key := range []int{1, maxSerial} {
			for _, id := range []int{1, 16} {
				for _, zones := range []int{2, 255} {
					for _, start := range []int{0, maxMinute} {
						x := api.Ticket{Serial: serial, Product: id, Zones: zones, From: start, Key: key}
						covers(t, "both ends", ids(1, 16), x, usualZone, start)
					}
				}
			}
		}
	}
}

func TestZonesThatAreNone(t *testing.T) {
	for _, zone := range []int{math.MinInt, -1 << 32, -64, -8, -1, 8, 9, 16, 63, 64, 65, 1 << 32, math.MaxInt} {
		for _, zones := range []int{1, 128, 255} {
			doesnt(t, "a zone", ids(2), inZones(zones), zone, usualAt)
		}
	}
	covers(t, "zone 0", ids(2), inZones(255), 0, usualAt)
	covers(t, "zone 7", ids(2), inZones(255), 7, usualAt)
}

func TestMinutesThatAreNone(t *testing.T) {
	l := []api.Product{product(2, great)}
	for _, at := range []int{math.MinInt, -1 << 32, -day, -1, maxMinute + 1, maxMinute + day, 1 << 31, 1 << 32, math.MaxInt} {
		for _, start := range []int{0, usualStart, maxMinute - 1, maxMinute} {
			doesnt(t, "a minute", l, from(start), usualZone, at)
		}
	}
	covers(t, "minute 0", l, from(0), usualZone, 0)
	covers(t, "MaxMinute", l, from(maxMinute), usualZone, maxMinute)
}

func TestAProductThatIsNotThere(t *testing.T) {
	for name, l := range map[string][]api.Product{
		"nil": nil, "empty": {}, "others": ids(1, 3), "below": ids(1), "above": ids(3), "all but it": append(ids(1), many(16)[2:]...),
	} {
		doesnt(t, name, l, usual(), usualZone, usualAt)
		says(t, name, counts(), nil, l, issue(t, usual(), secret), usualZone, usualAt, api.NoThing)
	}
}

func TestEachProductIsItsOwn(t *testing.T) {
	var l []api.Product
	for id := 1; id <= 16; id++ {
		l = append(l, running(id, 10*id, but(3+id%2)))
	}
	for id := 1; id <= 16; id++ {
		// On day 3 the products of even Ids don't run, on day 4 the others don't.
		runs, rests := (4-id%2)*day+100, (3+id%2)*day+100
		for of := -1; of <= 200; of++ {
			x := changed(func(x *api.Ticket) { x.Product, x.From = id, runs })
			if Covers(l, x, usualZone, runs+of) != (0 <= of && of < 10*id) {
				t.Error(id, of)
			}
			x.From = rests
			doesnt(t, "on the day that is excepted", l, x, usualZone, rests+of)
		}
	}
}

func TestEachZone(t *testing.T) {
	for zone, bit := range bits() {
		for other := range 8 {
			for _, one := range []struct {
				zones int
				is    bool
			}{{bit, other == zone}, {255 - bit, other != zone}, {255, true}} {
				x := inZones(one.zones)
				if Covers(ids(2), x, other, usualAt) != one.is {
					t.Error(one.zones, other)
				}
				want := api.NoZone
				if one.is {
					want = api.Valid
				}
				says(t, one.zones, counts(), nil, ids(2), issue(t, x, secret), other, usualAt, want)
			}
		}
	}
}

func TestEachZones(t *testing.T) {
	for zones := -300; zones <= 600; zones++ {
		for zone := range 8 {
			is := 1 <= zones && zones <= 255 && zones&bits()[zone] > 0
			if Covers(ids(2), inZones(zones), zone, usualAt) != is {
				t.Error(zones, zone)
			}
		}
	}
}

func TestAroundFromAndTheLastMinute(t *testing.T) {
	for _, minutes := range []int{1, 2, 60, day - 1, day, day + 1, 30 * day, great - 1, great} {
		for _, start := range []int{0, 1, 99, day - 1, day, usualStart, maxMinute - great - 1, maxMinute - great} {
			isCovered(t, minutes, []api.Product{product(2, minutes)}, from(start), start, start+minutes-1)
		}
	}
}

func TestOneMinuteIsOneMinute(t *testing.T) {
	for at := usualStart - 5; at <= usualStart+5; at++ {
		if Covers([]api.Product{product(2, 1)}, usual(), usualZone, at) != (at == usualStart) {
			t.Error(at)
		}
	}
}

func TestFromAndMinutesTogetherAboveMaxMinute(t *testing.T) {
	for _, minutes := range []int{1, 2, 60, great - 1, great} {
		for _, back := range []int{0, 1, 59, 60, 61, great - 1} {
			start := maxMinute - back
			l := []api.Product{product(2, minutes)}
			isCovered(t, minutes, l, from(start), start, min(start+minutes-1, maxMinute))
		}
	}
}

func TestDaysOnWhichItDoesNotRun(t *testing.T) {
	for name, one := range map[string]struct {
		s    api.Service
		days []int // of days 0 to 20
	}{
		"never":           {api.Service{}, nil},
		"by the week":     {api.Service{Week: 1 << 3, To: greatDay}, []int{3, 10, 17}},
		"from a day on":   {api.Service{Week: 127, From: 3, To: 6}, []int{3, 4, 5}},
		"none at all":     {api.Service{Week: 127, From: 3, To: 3}, nil},
		"an extra day":    {api.Service{Week: 1, To: 8, Extra: []int{3, 9}}, []int{0, 3, 7, 9}},
		"extra ones only": {on(0, 3, 20), []int{0, 3, 20}},
		"an excepted one": {api.Service{Week: 1<<3 | 1<<4, To: 12, Except: []int{3, 11}}, []int{4, 10}},
		"both":            {api.Service{Week: 1 << 3, To: 18, Extra: []int{5, 16}, Except: []int{10, 11}}, []int{3, 5, 16, 17}},
	} {
		l := []api.Product{running(2, great, one.s)}
		for today := range 21 {
			is := slices.Contains(one.days, today)
			for _, of := range []int{0, 1, 719, 1438, 1439} {
				if Covers(l, from(0), usualZone, today*day+of) != is || Covers(l, from(today*day+of), usualZone, today*day+of) != is {
					t.Error(name, today, of)
				}
			}
			want := api.NoTime
			if is {
				want = api.Valid
			}
			says(t, name, counts(), nil, l, issue(t, from(0), secret), usualZone, today*day+100, want)
		}
	}
}

func TestOverMidnight(t *testing.T) {
	start := 4*day - 30
	over := func(s api.Service) []api.Product { return []api.Product{running(2, 60, s)} }
	isCovered(t, "into a day on which it runs", over(daily()), from(start), start, start+59)
	isCovered(t, "into one on which it doesn't", over(but(4)), from(start), start, 4*day-1)
	isCovered(t, "into one behind all", over(api.Service{Week: 127, To: 4}), from(start), start, 4*day-1)
	isCovered(t, "from a day on which it didn't", over(but(3)), from(start), 4*day, start+59)
	isCovered(t, "from one ahead of all", over(api.Service{Week: 127, From: 4, To: 9}), from(start), 4*day, start+59)
	isCovered(t, "into an extra day alone", over(on(4)), from(start), 4*day, start+59)
	isCovered(t, "from an extra day alone", over(on(3)), from(start), start, 4*day-1)
	for at := start - 1; at <= start+60; at++ {
		doesnt(t, "on neither", over(but(3, 4)), from(start), usualZone, at)
	}
}

func TestOverADayOnWhichItDoesNotRun(t *testing.T) {
	l := []api.Product{running(2, 3*day, but(4))}
	for at := usualStart - 1; at <= usualStart+3*day; at++ {
		is := usualStart <= at && at < 4*day || 5*day <= at && at < usualStart+3*day
		if Covers(l, usual(), usualZone, at) != is {
			t.Error(at)
		}
	}
}

func TestTheLastDayOfAll(t *testing.T) {
	const begins = lastDay * day
	for _, one := range []struct {
		s    api.Service
		last int
	}{{daily(), maxMinute}, {but(lastDay), begins - 1}, {api.Service{Week: 127, To: lastDay}, begins - 1}} {
		isCovered(t, one.s.To, []api.Product{running(2, great, one.s)}, from(begins-9), begins-9, one.last)
	}
	isCovered(t, "an extra one", []api.Product{running(2, great, on(lastDay))}, from(begins-9), begins, maxMinute)
}

// chosenProducts may be, and run on some of the first nine days.
func chosenProducts(r *rand.Rand) []api.Product {
	var l []api.Product
	for id := 1; id <= 16; id++ {
		if r.IntN(3) == 0 {
			s := api.Service{Week: 127 &^ r.IntN(128), From: r.IntN(4), To: 5 + r.IntN(5)}
			switch r.IntN(4) {
			case 0:
				s.Extra = []int{r.IntN(9)}
			case 1:
				s.Except = []int{r.IntN(9)}
			}
			l = append(l, running(id, 1+r.IntN(3*day), s))
		}
	}
	return l
}

// chosenTicket is mostly of a product among those.
func chosenTicket(r *rand.Rand, l []api.Product) api.Ticket {
	x := api.Ticket{Serial: 1 + r.IntN(5), Product: 1 + r.IntN(16), Zones: 1 + r.IntN(255), From: r.IntN(9 * day), Key: 1}
	if len(l) > 0 && r.IntN(9) > 0 {
		x.Product = l[r.IntN(len(l))].Id
	}
	return x
}

func TestCoversAgainstAnotherWay(t *testing.T) {
	r := rand.New(rand.NewPCG(14, 2))
	is := 0
	for range 20000 {
		l := chosenProducts(r)
		x := chosenTicket(r, l)
		zone, at := r.IntN(10)-1, x.From+r.IntN(4*day)-day/2
		want := otherCovers(l, x, zone, at)
		if Covers(l, x, zone, at) != want {
			t.Fatal(l, x, zone, at, want)
		}
		if want {
			is++
		}
	}
	if is < 500 {
		t.Error("too few that cover", is)
	}
}

// P14.2: errors

// someBytes open, or don't; check, or don't.
func someBytes(t *testing.T) map[string][]byte {
	b := issue(t, usual(), secret)
	return map[string][]byte{
		"nil": nil, "empty": {}, "valid": b, "cut off": b[:len(b)-1], "too long": append(bytes.Clone(b), 0),
		"another's": issue(t, usual(), otherOne), "no product": withNumber(b, 1, 17), "many": make([]byte, 5000),
		"of no key":   issue(t, changed(func(x *api.Ticket) { x.Key = 9 }), secret),
		"of no thing": issue(t, changed(func(x *api.Ticket) { x.Product = 9 }), secret),
		"elsewhere":   issue(t, inZones(4), secret), "too late": issue(t, from(usualAt-60), secret),
	}
}

func TestKeysThatMayNotBe(t *testing.T) {
	for what, b := range someBytes(t) {
		for name, k := range wrongKeys() {
			isRefused(t, name+", "+what, k, nil, ids(2), b, usualZone, usualAt)
			isRefused(t, name+", "+what, k, []api.Revoked{{Serial: 7}}, nil, b, 7, 0)
		}
	}
}

func TestRevokedOnesThatMayNotBe(t *testing.T) {
	for what, b := range someBytes(t) {
		for name, r := range wrongRevoked() {
			isRefused(t, name+", "+what, counts(), r, ids(2), b, usualZone, usualAt)
			isRefused(t, name+", "+what, nil, r, nil, b, 7, 0)
		}
	}
}

func TestVerdictsByProductsThatMayNotBe(t *testing.T) {
	for what, b := range someBytes(t) {
		for name, l := range wrongProducts() {
			isRefused(t, name+", "+what, counts(), nil, l, b, usualZone, usualAt)
			isRefused(t, name+", "+what, nil, []api.Revoked{{Serial: 7}}, l, b, 7, 0)
		}
	}
}

func TestVerdictsAtPlacesThatAreNone(t *testing.T) {
	for what, b := range someBytes(t) {
		for _, place := range wrongPlaces() {
			isRefused(t, what, counts(), nil, ids(2), b, place[0], place[1])
			isRefused(t, what, nil, []api.Revoked{{Serial: 7}}, nil, b, place[0], place[1])
		}
	}
}

func TestWrongOnesTogether(t *testing.T) {
	lists := []int{0, 1}
	for what, b := range someBytes(t) {
		for _, wrongKey := range lists {
			for _, wrongSerial := range lists {
				for _, wrongId := range lists {
					for _, zone := range []int{-1, usualZone, 8} {
						for _, at := range []int{-1, usualAt, maxMinute + 1} {
							k := [][]api.Key{counts(), wrongKeys()["twice"]}[wrongKey]
							r := [][]api.Revoked{nil, wrongRevoked()["twice"]}[wrongSerial]
							l := [][]api.Product{ids(2), ids(2, 2)}[wrongId]
							if wrongKey+wrongSerial+wrongId > 0 || !isOne(zone, at) {
								isRefused(t, what, k, r, l, b, zone, at)
							} else if _, err := Verdict(k, r, l, b, zone, at); err != nil {
								t.Error(what, err)
							}
						}
					}
				}
			}
		}
	}
}

func TestPlacesAtBothEnds(t *testing.T) {
	x := api.Ticket{Serial: 7, Product: 2, Zones: 255, From: 0, Key: 1}
	for _, zone := range []int{0, 7} {
		says(t, "minute 0", counts(), nil, ids(2), issue(t, x, secret), zone, 0, api.Valid)
		says(t, "no bytes", counts(), nil, ids(2), nil, zone, maxMinute, api.NoForm)
		x.From = maxMinute - 1
		says(t, "one ahead of MaxMinute", counts(), nil, ids(2), issue(t, x, secret), zone, maxMinute-1, api.Valid)
		says(t, "MaxMinute, no key counts", counts(), nil, ids(2), issue(t, x, secret), zone, maxMinute, api.NoKey)
		x.From = 0
	}
}

func TestAsMuchAsMayBe(t *testing.T) {
	k, r := []api.Key{}, []api.Revoked{}
	for i := range 32 {
		k = append(k, api.Key{Id: i + 1, Q: public(secret), To: maxMinute})
	}
	for i := range 200 {
		r = append(r, api.Revoked{Serial: i + 8, From: 0})
	}
	last := changed(func(x *api.Ticket) { x.Key, x.Product = 32, 16 })
	says(t, "valid", k, r, many(16), issue(t, last, secret), usualZone, usualAt, api.Valid)
	last.Serial = 207
	says(t, "the last serial", k, r, many(16), issue(t, last, secret), usualZone, usualAt, api.Revoke)
	isRefused(t, "a key more", append(k, api.Key{Id: 33, Q: public(secret)}), r, many(16), nil, usualZone, usualAt)
	isRefused(t, "a serial more", k, append(r, api.Revoked{Serial: 208}), many(16), nil, usualZone, usualAt)
	isRefused(t, "a product more", k, r, many(17), nil, usualZone, usualAt)
}

// P14.2: verdicts

func TestTheExample(t *testing.T) {
	for what, b := range someBytes(t) {
		for _, none := range [][]api.Product{nil, {}} {
			for zone := range 8 {
				for _, at := range []int{0, usualStart, usualAt, maxMinute} {
					if v, err := Verdict(counts(), nil, none, b, zone, at); v == api.Valid || v == 0 || err != nil {
						t.Error(what, zone, at, v, err)
					}
				}
			}
		}
	}
}

func TestATicketThatAnotherProgramSigned(t *testing.T) {
	l := ids(2)
	for _, one := range []struct {
		name           string
		b              []byte
		k              []api.Key
		r              []api.Revoked
		l              []api.Product
		zone, at, want int
	}{
		{"valid", told(), counts(), nil, l, 1, 100, 1},
		{"valid, zone 0", told(), counts(), nil, l, 0, 159, 1},
		{"no form", told()[1:], counts(), nil, l, 1, 100, 2},
		{"no keys", told(), nil, nil, l, 1, 100, 3},
		{"another serial", withNumber(told(), 0, 8), counts(), nil, l, 1, 100, 3},
		{"revoked", told(), counts(), []api.Revoked{{Serial: 7, From: 100}}, l, 1, 100, 4},
		{"not revoked yet", told(), counts(), []api.Revoked{{Serial: 7, From: 101}}, l, 1, 100, 1},
		{"zone 2", told(), counts(), nil, l, 2, 100, 5},
		{"too soon", told(), counts(), nil, l, 1, 99, 6},
		{"too late", told(), counts(), nil, l, 1, 160, 6},
		{"no thing", told(), counts(), nil, ids(1, 3), 1, 100, 7},
	} {
		says(t, one.name, one.k, one.r, one.l, one.b, one.zone, one.at, one.want)
	}
}

// A showing is all that a verdict hangs on.
type showing struct {
	k        []api.Key
	r        []api.Revoked
	l        []api.Product
	x        api.Ticket
	d        uint64
	b        []byte
	zone, at int
}

// goodShowing is valid, though much else is near.
func goodShowing() showing {
	return showing{
		k: []api.Key{{Id: 1, Q: public(secret), From: usualAt, To: usualAt + 1}, {Id: 2, Q: public(otherOne), To: maxMinute}},
		r: []api.Revoked{{Serial: 6, From: 0}, {Serial: 7, From: usualAt + 1}, {Serial: 8, From: 0}},
		l: []api.Product{running(1, great, but(3)), running(2, 60, on(3)), running(3, 1, but(3))},
		x: usual(), d: secret, zone: usualZone, at: usualAt,
	}
}

// A fault is done to a showing ahead of signing it, or to its bytes.
type fault struct {
	name  string
	ahead func(s *showing)
	bytes func(b []byte) []byte
}

func ofForm() []fault {
	return []fault{
		{name: "none", bytes: func([]byte) []byte { return nil }},
		{name: "cut off", bytes: func(b []byte) []byte { return b[:len(b)-1] }},
		{name: "a byte more", bytes: func(b []byte) []byte { return append(b, 0) }},
		{name: "product 17", bytes: func(b []byte) []byte { return withNumber(b, 1, 17) }},
		{name: "no zones", bytes: func(b []byte) []byte { return withNumber(b, 2, 0) }},
	}
}

func ofKey() []fault {
	return []fault{
		{name: "another's", ahead: func(s *showing) { s.d = otherOne }},
		{name: "key 3", ahead: func(s *showing) { s.x.Key = 3 }},
		{name: "key 2", ahead: func(s *showing) { s.x.Key = 2 }},
		{name: "no keys", ahead: func(s *showing) { s.k = nil }},
		{name: "another Q", ahead: func(s *showing) { s.k[0].Q = public(7) }},
		{name: "a key too soon", ahead: func(s *showing) { s.k[0].From = s.at + 1; s.k[0].To = s.at + 9 }},
		{name: "a key too late", ahead: func(s *showing) { s.k[0].From = 0; s.k[0].To = s.at }},
		{name: "a bit of S", bytes: func(b []byte) []byte { return with(b, len(b)-1, b[len(b)-1]^1) }},
		{name: "later", bytes: func(b []byte) []byte { return withNumber(b, 3, usualStart+1) }},
	}
}

func ofSerial() []fault {
	return []fault{
		{name: "revoked", ahead: func(s *showing) { s.r[1].From = s.at }},
		{name: "revoked long ago", ahead: func(s *showing) { s.r[1].From = 0 }},
		{name: "another serial", ahead: func(s *showing) { s.x.Serial = 8 }},
		{name: "revoked alone", ahead: func(s *showing) { s.r = []api.Revoked{{Serial: s.x.Serial, From: s.at}} }},
	}
}

func ofThing() []fault {
	return []fault{
		{name: "no products", ahead: func(s *showing) { s.l = nil }},
		{name: "taken away", ahead: func(s *showing) { s.l = slices.Delete(s.l, 1, 2) }},
		{name: "product 16", ahead: func(s *showing) { s.x.Product = 16 }},
	}
}

func ofZone() []fault {
	return []fault{
		{name: "all but it", ahead: func(s *showing) { s.x.Zones = 255 - 2 }},
		{name: "zone 7", ahead: func(s *showing) { s.zone = 7 }},
	}
}

func ofTime() []fault {
	return []fault{
		{name: "too soon", ahead: func(s *showing) { s.x.From = s.at + 1 }},
		{name: "too late", ahead: func(s *showing) { s.x.From = s.at - 60 }},
		{name: "short", ahead: func(s *showing) { s.l[1].Minutes = s.at - s.x.From }},
		{name: "not by the week", ahead: func(s *showing) { s.l[1].Service = api.Service{Week: 127 - 1<<3, To: 9} }},
		{name: "excepted", ahead: func(s *showing) { s.l[1].Service = but(3) }},
	}
}

// kinds are the faults of each verdict, in the chapter's order.
func kinds() []struct {
	verdict int
	faults  []fault
} {
	return []struct {
		verdict int
		faults  []fault
	}{
		{api.NoForm, ofForm()}, {api.NoKey, ofKey()}, {api.Revoke, ofSerial()},
		{api.NoThing, ofThing()}, {api.NoZone, ofZone()}, {api.NoTime, ofTime()},
	}
}

// shown is a showing with faults, done to it from the last one on, so that a
// product is changed ahead of being taken away.
func shown(t *testing.T, faults []fault) showing {
	t.Helper()
	s := goodShowing()
	for _, f := range slices.Backward(faults) {
		if f.ahead != nil {
			f.ahead(&s)
		}
	}
	s.b = issue(t, s.x, s.d)
	for _, f := range slices.Backward(faults) {
		if f.bytes != nil {
			s.b = f.bytes(s.b)
		}
	}
	return s
}

func names(faults []fault) string {
	var l []string
	for _, f := range faults {
		l = append(l, f.name)
	}
	return strings.Join(l, ", ")
}

func (s showing) says(t *testing.T, name string, want int) {
	t.Helper()
	says(t, name, s.k, s.r, s.l, s.b, s.zone, s.at, want)
	if v, err := otherVerdict(s.k, s.r, s.l, s.b, s.zone, s.at); v != want || err != nil {
		t.Error(name, "the other way is", v, err, "for", want)
	}
}

func TestWithoutAnyFault(t *testing.T) { shown(t, nil).says(t, "no fault", api.Valid) }

func TestEachVerdictAlone(t *testing.T) {
	for _, one := range kinds() {
		for _, f := range one.faults {
			shown(t, []fault{f}).says(t, f.name, one.verdict)
		}
	}
}

func TestTheFirstOfTwo(t *testing.T) {
	all := kinds()
	for i, one := range all {
		for _, other := range all[i+1:] {
			for _, f := range one.faults {
				for _, g := range other.faults {
					both := []fault{f, g}
					shown(t, both).says(t, names(both), one.verdict)
				}
			}
		}
	}
}

func TestTheFirstOfMany(t *testing.T) {
	all := kinds()
	r := rand.New(rand.NewPCG(14, 3))
	for mask := range 1 << len(all) {
		for range 6 {
			want, faults := api.Valid, []fault{}
			for i := len(all) - 1; i >= 0; i-- {
				if mask>>i&1 == 1 {
					want = all[i].verdict
					faults = append([]fault{all[i].faults[r.IntN(len(all[i].faults))]}, faults...)
				}
			}
			shown(t, faults).says(t, names(faults), want)
		}
	}
}

func TestBytesThatOpenAsNone(t *testing.T) {
	b := issue(t, usual(), secret)
	r := []api.Revoked{{Serial: 7}}
	for n := range len(b) {
		says(t, "cut off", counts(), nil, ids(2), b[:n], usualZone, usualAt, api.NoForm)
		says(t, "cut off, all else wrong", nil, r, nil, b[:n], 7, 0, api.NoForm)
	}
	for place, numbers := range [][]int{
		{0, maxSerial + 1, -1}, {0, 17, -1}, {0, 256, -1}, {maxMinute + 1, -1}, {0, maxSerial + 1, -1},
	} {
		for _, number := range numbers {
			c := withNumber(b, place, number)
			says(t, number, counts(), nil, many(16), c, usualZone, usualAt, api.NoForm)
			says(t, number, nil, r, nil, c, 7, 0, api.NoForm)
		}
	}
	for _, c := range [][]byte{nil, {}, {1}, make([]byte, 128), make([]byte, 5000), append(bytes.Clone(b), b...)} {
		says(t, len(c), counts(), nil, ids(2), c, usualZone, usualAt, api.NoForm)
	}
}

func TestEachBitOfATicket(t *testing.T) {
	b := issue(t, usual(), secret)
	for i := range b {
		for bit := range 8 {
			c := with(b, i, b[i]^1<<bit)
			want := api.NoKey
			if _, _, err := ticket.Open(c); err != nil {
				want = api.NoForm
			}
			says(t, i, counts(), []api.Revoked{{Serial: 7}}, ids(2), c, usualZone, usualAt, want)
		}
	}
}

func TestAroundAKeysTime(t *testing.T) {
	b := issue(t, from(0), secret)
	k := []api.Key{{Id: 1, Q: public(secret), From: 10, To: 20}}
	for at := range 30 {
		want := api.NoKey
		if 10 <= at && at < 20 {
			want = api.Valid
		}
		says(t, "a key's time", k, nil, ids(2), b, usualZone, at, want)
	}
	k[0].To = 10
	says(t, "no time at all", k, nil, ids(2), b, usualZone, 10, api.NoKey)
}

// It is the minute of the showing that counts, not the ticket's From.
func TestAKeyThatDidNotCountAtFrom(t *testing.T) {
	b := issue(t, usual(), secret)
	k := []api.Key{{Id: 1, Q: public(secret), From: usualAt, To: maxMinute}}
	says(t, "ahead of it", k, nil, ids(2), b, usualZone, usualAt-1, api.NoKey)
	says(t, "at it", k, nil, ids(2), b, usualZone, usualAt, api.Valid)
}

func TestAroundTheMinuteFromWhichItIsRevoked(t *testing.T) {
	r := []api.Revoked{{Serial: 3}, {Serial: 7, From: usualAt}, {Serial: 9}}
	there, away := issue(t, usual(), secret), issue(t, changed(func(x *api.Ticket) { x.Product = 9 }), secret)
	for at := usualAt - 2; at <= usualAt+2; at++ {
		valid, none := api.Valid, api.NoThing
		if at >= usualAt {
			valid, none = api.Revoke, api.Revoke
		}
		says(t, "else valid", counts(), r, ids(2), there, usualZone, at, valid)
		says(t, "else of no thing", counts(), r, ids(2), away, usualZone, at, none)
	}
}

func TestAProductThatIsNotThereWhereverItIs(t *testing.T) {
	for id := 1; id <= 16; id++ {
		x := changed(func(x *api.Ticket) { x.Product, x.Zones = id, 1 })
		all := many(16)
		says(t, id, counts(), nil, all, issue(t, x, secret), 0, usualAt, api.Valid)
		says(t, id, counts(), nil, all, issue(t, x, secret), 1, usualAt, api.NoZone)
		says(t, id, counts(), nil, all, issue(t, x, secret), 1, usualStart-1, api.NoZone)
		others := slices.Delete(all, id-1, id)
		for zone := range 8 {
			says(t, id, counts(), nil, others, issue(t, x, secret), zone, usualAt, api.NoThing)
			says(t, id, counts(), nil, others, issue(t, x, secret), zone, usualStart+60, api.NoThing)
		}
	}
}

func TestAZoneThatIsNotItsAtEachMinute(t *testing.T) {
	b := issue(t, inZones(255-2), secret)
	for at := usualStart - 5; at <= usualStart+65; at += 5 {
		says(t, "not its zone", counts(), nil, ids(2), b, 1, at, api.NoZone)
		inTime := api.NoTime
		if usualStart <= at && at < usualStart+60 {
			inTime = api.Valid
		}
		says(t, "its zone", counts(), nil, ids(2), b, 2, at, inTime)
	}
}

// P14.3

// handed are lists with more behind them that an append would write over.
type handed struct {
	k    []api.Key
	r    []api.Revoked
	l    []api.Product
	b    []byte
	days [][]int
}

func handedOf(s showing) (given showing, whole handed) {
	whole.k = append(slices.Clone(s.k), api.Key{Id: -7}, api.Key{Id: 1})
	whole.r = append(slices.Clone(s.r), api.Revoked{Serial: -7}, api.Revoked{Serial: 7})
	whole.l = append(slices.Clone(s.l), product(-7, -7), product(2, 60))
	whole.b = append(bytes.Clone(s.b), "marks"...)
	for i := range s.l {
		p := &whole.l[i].Service
		extra, except := append(slices.Clone(p.Extra), 7, -1), append(slices.Clone(p.Except), 3, -1)
		p.Extra, p.Except = extra[:len(p.Extra)], except[:len(p.Except)]
		whole.days = append(whole.days, extra, except)
	}
	given = s
	given.k, given.r = whole.k[:len(s.k)], whole.r[:len(s.r)]
	given.l, given.b = whole.l[:len(s.l)], whole.b[:len(s.b)]
	return given, whole
}

func callAll(s showing) {
	May(s.l)
	for _, zone := range []int{-1, 0, 1, 7, 8} {
		for _, at := range []int{-1, 0, s.at, maxMinute, maxMinute + 1} {
			Covers(s.l, s.x, zone, at)
			Verdict(s.k, s.r, s.l, s.b, zone, at)
		}
	}
}

// allShowings are some of each verdict, and of lists that may not be.
func allShowings(t *testing.T) map[string]showing {
	all := map[string]showing{"good": shown(t, nil)}
	for _, one := range kinds() {
		for _, f := range one.faults {
			all[f.name] = shown(t, []fault{f})
		}
	}
	for name, l := range rightProducts() {
		s := shown(t, nil)
		s.l = l
		all["right, "+name] = s
	}
	for name, l := range wrongProducts() {
		s := shown(t, nil)
		s.l = l
		all["wrong, "+name] = s
	}
	for name, k := range wrongKeys() {
		s := shown(t, nil)
		s.k = k
		all["wrong key, "+name] = s
	}
	for name, r := range wrongRevoked() {
		s := shown(t, nil)
		s.r = r
		all["wrong serial, "+name] = s
	}
	return all
}

func TestWhatIsHandedInStays(t *testing.T) {
	for name, s := range allShowings(t) {
		_, was := handedOf(s)
		given, whole := handedOf(s)
		callAll(given)
		if !reflect.DeepEqual(whole, was) {
			t.Error(name)
		}
	}
}

func TestNothingIsKept(t *testing.T) {
	s := shown(t, nil)
	asks := func(name string, want int) {
		t.Helper()
		s.says(t, name, want)
	}
	asks("as it was", api.Valid)
	s.l[1].Minutes = 1
	asks("shorter now", api.NoTime)
	s.l[1].Minutes = 60
	s.l[1].Service.Extra[0] = 4
	asks("on another day now", api.NoTime)
	s.l[1].Service.Extra[0] = 3
	s.r[1].From = s.at
	asks("revoked now", api.Revoke)
	s.r[1].From++
	s.k[0].Q = public(7)
	asks("another key now", api.NoKey)
	s.k[0].Q = public(secret)
	s.b[len(s.b)-1] ^= 1
	asks("another S now", api.NoKey)
	s.b[len(s.b)-1] ^= 1
	s.b[0] = 9
	asks("no ticket now", api.NoForm)
	s.b[0] = 1
	s.l[1].Id = 1
	isRefused(t, "twice now", s.k, s.r, s.l, s.b, s.zone, s.at)
	s.l[1].Id = 2
	asks("back again", api.Valid)
}

func TestAListOfOneMemoryForAll(t *testing.T) {
	days := []int{3, 5}
	l := []api.Product{running(1, 60, on(days...)), running(2, 60, on(days...)), running(3, 60, but(days...))}
	for i := range l[:2] {
		l[i].Service.Extra = days
	}
	l[2].Service.Except = days
	says(t, "one memory", counts(), nil, l, issue(t, usual(), secret), usualZone, usualAt, api.Valid)
	if !slices.Equal(days, []int{3, 5}) {
		t.Error(days)
	}
}

// P14.4

// chosenShowing is near to valid.
func chosenShowing(t *testing.T, r *rand.Rand) showing {
	t.Helper()
	s := goodShowing()
	if r.IntN(3) == 0 {
		s.l = chosenProducts(r)
	}
	s.x = api.Ticket{Serial: 5 + r.IntN(5), Product: 1 + r.IntN(4), Zones: []int{1, 3, 253, 255}[r.IntN(4)], From: usualStart - 60*r.IntN(2), Key: 1}
	s.zone, s.at = r.IntN(3), s.x.From-1+r.IntN(62)
	s.k[0].From, s.k[0].To = r.IntN(2)*(usualStart-30), usualStart+30*(1+r.IntN(2))
	s.r = nil
	for serial := 5; serial < 10; serial++ {
		if r.IntN(3) == 0 {
			s.r = append(s.r, api.Revoked{Serial: serial, From: usualStart - 60 + r.IntN(120)})
		}
	}
	if r.IntN(2) == 0 {
		s.x.Product = 2
		s.l = ids(2, 4)
	}
	s.d = []uint64{secret, secret, secret, otherOne}[r.IntN(4)]
	s.b = issue(t, s.x, s.d)
	if r.IntN(9) == 0 {
		s.b = ofForm()[r.IntN(5)].bytes(s.b)
	}
	return s
}

func verdictOn(t *testing.T, s showing) int {
	t.Helper()
	v, err := Verdict(s.k, s.r, s.l, s.b, s.zone, s.at)
	if err != nil {
		t.Fatal(s, err)
	}
	return v
}

// shouldBeValid goes by the promise's words.
func shouldBeValid(s showing) bool {
	x, err := keys.Check(s.k, s.b, s.at)
	return err == nil && !revoke.Is(s.r, x.Serial, s.at) && Covers(s.l, x, s.zone, s.at)
}

func TestValidJustIfItChecksIsNotRevokedAndCovers(t *testing.T) {
	r := rand.New(rand.NewPCG(14, 4))
	var each [8]int
	for range 400 {
		s := chosenShowing(t, r)
		v := verdictOn(t, s)
		if (v == api.Valid) != shouldBeValid(s) {
			t.Fatal(s, v)
		}
		each[v]++
	}
	for v := api.Valid; v <= api.NoThing; v++ {
		if each[v] < 10 {
			t.Error("too few of verdict", v, each)
		}
	}
}

func TestValidJustIfForEachFault(t *testing.T) {
	for name, s := range allShowings(t) {
		if !keys.May(s.k) || !revoke.May(s.r) || !May(s.l) {
			continue
		}
		if v := verdictOn(t, s); (v == api.Valid) != shouldBeValid(s) {
			t.Error(name, v)
		}
	}
}

// withSerial is a showing with a serial more revoked.
func withSerial(t *testing.T, s showing, serial, minute int) showing {
	t.Helper()
	l, err := revoke.Merge(s.r, []api.Revoked{{Serial: serial, From: minute}})
	if err != nil {
		t.Fatal(err)
	}
	s.r = l
	return s
}

func TestWithASerialMoreRevokedNoVerdictBecomesValid(t *testing.T) {
	r := rand.New(rand.NewPCG(14, 5))
	lost, kept := 0, 0
	for range 100 {
		s := chosenShowing(t, r)
		before := verdictOn(t, s)
		for _, serial := range []int{s.x.Serial - 1, s.x.Serial, s.x.Serial + 1} {
			for _, minute := range []int{s.at - 1, s.at, s.at + 1} {
				want := before
				if serial == s.x.Serial && minute <= s.at && before != api.NoForm && before != api.NoKey {
					want = api.Revoke
				}
				if v := verdictOn(t, withSerial(t, s, serial, minute)); v != want {
					t.Error(s, serial, minute, "is", v, "for", want)
				}
				if before == api.Valid && want == api.Revoke {
					lost++
				} else if before == api.Valid {
					kept++
				}
			}
		}
	}
	if lost < 20 || kept < 20 {
		t.Error("too few that were valid", lost, kept)
	}
}

func TestWithASerialMoreRevokedForEachFault(t *testing.T) {
	for _, one := range kinds() {
		for _, f := range one.faults {
			s := shown(t, []fault{f})
			for _, minute := range []int{0, s.at - 1, s.at, s.at + 1, maxMinute} {
				for _, serial := range []int{1, 7, 9} {
					more := withSerial(t, s, serial, minute)
					if verdictOn(t, more) == api.Valid {
						t.Error(f.name, serial, minute)
					}
				}
			}
		}
	}
}

// P1

func TestEveryMinuteAndZoneEnds(t *testing.T) {
	lists := wrongProducts()
	maps.Copy(lists, rightProducts())
	tickets := wrongTickets()
	tickets["usual"], tickets["late"] = usual(), from(maxMinute)
	for name, l := range lists {
		for what, x := range tickets {
			for _, zone := range []int{math.MinInt, -1, 0, 1, 7, 8, 64, math.MaxInt} {
				for _, at := range []int{math.MinInt, -1, 0, usualAt, maxMinute, maxMinute + 1, math.MaxInt} {
					if Covers(l, x, zone, at) != otherCovers(l, x, zone, at) {
						t.Fatal(name, what, zone, at)
					}
				}
			}
		}
	}
}

func FuzzVerdict(f *testing.F) {
	for _, b := range [][]byte{nil, {1, 0, 0}, told(), told()[1:], withNumber(told(), 0, 8), withNumber(told(), 1, 17)} {
		f.Add(b, 1, 100)
		f.Add(b, 8, -1)
	}
	f.Fuzz(func(t *testing.T, b []byte, zone, at int) {
		k, r, l := counts(), []api.Revoked{{Serial: 7, From: 130}}, ids(1, 2)
		want, wrong := otherVerdict(k, r, l, b, zone, at)
		if v, err := Verdict(k, r, l, b, zone, at); v != want || err != wrong {
			t.Error(b, zone, at, "is", v, err, "for", want, wrong)
		}
	})
}
