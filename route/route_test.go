package route

import (
	"math"
	"math/rand/v2"
	"slices"
	"strconv"
	"testing"

	"clapper/api"
	"clapper/service"
)

const (
	day       = 1440
	span      = 4320
	maxMinute = 1073741824
	greatDay  = 1048576
	lastDay   = 745654 // MaxMinute's: it is minute 64 of it
)

// otherMay goes by the chapter's words, one by one.
func otherMay(n api.Network) bool {
	for i, s := range n.Services {
		if i == 16 || !service.May(s) {
			return false
		}
	}
	for i, c := range n.Conns {
		if i == 100 || c.Service < 0 || c.Service > len(n.Services)-1 {
			return false
		}
		if c.From < 0 || c.From > 31 || c.To < 0 || c.To > 31 {
			return false
		}
		if c.Dep < 0 || c.Dep > 1439 || c.Arr < c.Dep+1 || c.Arr > 2879 {
			return false
		}
	}
	return true
}

// otherEarliest goes minute by minute through all stops: of what may be.
func otherEarliest(n api.Network, from, at, to, till int) (int, bool) {
	var is [32]bool
	is[from] = true
	ends := map[int][]int{}
	for minute := at; minute <= till; minute++ {
		for _, stop := range ends[minute] {
			is[stop] = true
		}
		if is[to] {
			return minute, true
		}
		for _, c := range n.Conns {
			if is[c.From] && c.Dep == minute%day && service.Runs(n.Services[c.Service], minute/day) {
				end := minute - c.Dep + c.Arr
				ends[end] = append(ends[end], c.To)
			}
		}
	}
	return 0, false
}

// daily runs on each day ahead of day 2^20.
func daily() api.Service { return api.Service{Week: 127, To: greatDay} }

// on runs on some days.
func on(days ...int) api.Service { return api.Service{Extra: days} }

// conn goes from a stop to another one, of the first service.
func conn(from, to, dep, arr int) api.Conn { return api.Conn{From: from, Dep: dep, To: to, Arr: arr} }

func of(place int, c api.Conn) api.Conn {
	c.Service = place
	return c
}

// network has a daily service.
func network(l ...api.Conn) api.Network {
	return api.Network{Services: []api.Service{daily()}, Conns: l}
}

// serving has services of its own.
func serving(l []api.Service, rides ...api.Conn) api.Network {
	return api.Network{Services: l, Conns: rides}
}

func example() api.Network { return network(conn(0, 1, 10, 20), conn(1, 2, 20, 30)) }

// line has rides 0 to 1, 1 to 2 and so on, one behind the other, in the order
// of time or in the other one.
func line(rides int, back bool) api.Network {
	var l []api.Conn
	for i := range rides {
		l = append(l, conn(i%31, i%31+1, 10*i, 10*i+10))
	}
	if back {
		slices.Reverse(l)
	}
	return network(l...)
}

// copies are so many of one thing.
func copies[T any](one T, n int) []T { return slices.Repeat([]T{one}, n) }

// with is a copy of a list with another one at a place.
func with[T any](l []T, at int, other T) []T {
	l = slices.Clone(l)
	l[at] = other
	return l
}

// without is a network with one ride fewer.
func without(n api.Network, at int) api.Network {
	n.Conns = slices.Delete(slices.Clone(n.Conns), at, at+1)
	return n
}

// shuffled has a network's rides in other orders.
func shuffled(r *rand.Rand, n api.Network) api.Network {
	n.Conns = slices.Clone(n.Conns)
	r.Shuffle(len(n.Conns), func(a, b int) { n.Conns[a], n.Conns[b] = n.Conns[b], n.Conns[a] })
	return n
}

// wrongServices may not be.
func wrongServices() map[string]api.Service {
	return map[string]api.Service{
		"Week -1":      {Week: -1, To: 9},
		"Week 128":     {Week: 128, To: 9},
		"From -1":      {Week: 127, From: -1, To: 9},
		"To too great": {Week: 127, To: greatDay + 1},
		"To low":       {Week: 127, From: 9, To: 8},
		"day -1":       {Week: 127, To: 9, Extra: []int{-1}},
		"falls":        {Week: 127, To: 9, Except: []int{3, 2}},
		"in both":      {Week: 127, To: 9, Extra: []int{3}, Except: []int{3}},
		"too many":     {Week: 127, To: 9, Extra: make([]int, 101)},
	}
}

// wrongRides may not be, of two services.
func wrongRides() map[string]api.Conn {
	return map[string]api.Conn{
		"Service -1":          of(-1, conn(0, 1, 10, 20)),
		"a low Service":       of(math.MinInt, conn(0, 1, 10, 20)),
		"Service 2":           of(2, conn(0, 1, 10, 20)),
		"Service 15":          of(15, conn(0, 1, 10, 20)),
		"Service 16":          of(16, conn(0, 1, 10, 20)),
		"a great Service":     of(math.MaxInt, conn(0, 1, 10, 20)),
		"From -1":             conn(-1, 1, 10, 20),
		"a low From":          conn(math.MinInt, 1, 10, 20),
		"From 32":             conn(32, 1, 10, 20),
		"a great From":        conn(math.MaxInt, 1, 10, 20),
		"To -1":               conn(0, -1, 10, 20),
		"a low To":            conn(0, math.MinInt, 10, 20),
		"To 32":               conn(0, 32, 10, 20),
		"a great To":          conn(0, math.MaxInt, 10, 20),
		"both -1":             conn(-1, -1, 10, 20),
		"both 32":             conn(32, 32, 10, 20),
		"Dep -1":              conn(0, 1, -1, 20),
		"Dep -1440":           conn(0, 1, -1440, 20),
		"a low Dep":           conn(0, 1, math.MinInt, 20),
		"Dep 1440":            conn(0, 1, 1440, 1450),
		"Dep 2878":            conn(0, 1, 2878, 2879),
		"a great Dep":         conn(0, 1, math.MaxInt, 20),
		"the greatest both":   conn(0, 1, math.MaxInt, math.MaxInt),
		"Dep great, Arr low":  conn(0, 1, math.MaxInt, math.MinInt),
		"Arr at Dep":          conn(0, 1, 10, 10),
		"Arr at Dep, 0":       conn(0, 1, 0, 0),
		"Arr at Dep, 1439":    conn(0, 1, 1439, 1439),
		"Arr ahead of Dep":    conn(0, 1, 10, 9),
		"Arr 0":               conn(0, 1, 10, 0),
		"Arr -1":              conn(0, 1, 10, -1),
		"a low Arr":           conn(0, 1, 10, math.MinInt),
		"Arr 2880":            conn(0, 1, 10, 2880),
		"Arr 2880, Dep great": conn(0, 1, 1439, 2880),
		"a great Arr":         conn(0, 1, 10, math.MaxInt),
	}
}

// rightRides may be, of two services.
func rightRides() map[string]api.Conn {
	return map[string]api.Conn{
		"plain":            conn(0, 1, 10, 20),
		"Service 1":        of(1, conn(0, 1, 10, 20)),
		"From 31":          conn(31, 0, 10, 20),
		"To 31":            conn(0, 31, 10, 20),
		"From and To 0":    conn(0, 0, 10, 20),
		"From and To 31":   conn(31, 31, 10, 20),
		"From and To 7":    conn(7, 7, 10, 20),
		"Dep 0":            conn(0, 1, 0, 1),
		"Dep 0, Arr great": conn(0, 1, 0, 2879),
		"Dep 1439":         conn(0, 1, 1439, 1440),
		"Dep 1439, great":  conn(0, 1, 1439, 2879),
		"Arr Dep + 1":      conn(0, 1, 10, 11),
		"Arr 1439":         conn(0, 1, 10, 1439),
		"Arr 1440":         conn(0, 1, 10, 1440),
		"Arr 2878":         conn(0, 1, 10, 2878),
		"Arr 2879":         conn(0, 1, 10, 2879),
	}
}

// rightNetworks may be.
func rightNetworks() map[string]api.Network {
	told := map[string]api.Network{
		"none":           {},
		"empty":          {Services: []api.Service{}, Conns: []api.Conn{}},
		"no rides":       {Services: []api.Service{daily()}},
		"empty rides":    {Services: []api.Service{daily()}, Conns: []api.Conn{}},
		"the example":    example(),
		"a line":         line(30, false),
		"MaxServices":    {Services: copies(daily(), 16)},
		"the last place": serving(copies(daily(), 16), of(15, conn(0, 1, 10, 20))),
		"MaxConns":       network(copies(conn(0, 1, 10, 20), 100)...),
		"both":           serving(copies(daily(), 16), copies(of(15, conn(0, 1, 10, 20)), 100)...),
		"zero services":  {Services: make([]api.Service, 16)},
		"never runs":     serving([]api.Service{{}}, conn(0, 1, 10, 20)),
	}
	for name, c := range rightRides() {
		told[name] = serving([]api.Service{daily(), on(1, 2)}, c)
	}
	return told
}

// wrongNetworks may not be, though they look as if rides of theirs went.
func wrongNetworks() map[string]api.Network {
	good := conn(0, 1, 10, 20)
	told := map[string]api.Network{
		"a service too many":       {Services: copies(daily(), 17), Conns: []api.Conn{good}},
		"many services too many":   {Services: copies(daily(), 500), Conns: []api.Conn{good}},
		"a zero one too many":      {Services: make([]api.Service, 17)},
		"a ride too many":          network(copies(good, 101)...),
		"many rides too many":      network(copies(good, 5000)...),
		"a ride, no services":      {Conns: []api.Conn{good}},
		"a ride, empty services":   {Services: []api.Service{}, Conns: []api.Conn{good}},
		"a zero ride":              network(good, api.Conn{}),
		"many zero rides":          network(make([]api.Conn, 100)...),
		"the place behind 16":      serving(copies(daily(), 16), of(16, good)),
		"the place behind 16, too": serving(copies(daily(), 17), of(16, good)),
	}
	for name, s := range wrongServices() {
		for place := range 3 {
			services := with([]api.Service{daily(), on(1), daily()}, place, s)
			for used := range 3 {
				told[name+" at "+strconv.Itoa(place)+" using "+strconv.Itoa(used)] = serving(services, of(used, good))
			}
			told[name+" at "+strconv.Itoa(place)+" using none"] = serving(services)
		}
		told[name+" at the last of 16"] = serving(with(copies(daily(), 16), 15, s), good)
	}
	for name, c := range wrongRides() {
		for place := range 3 {
			rides := with(copies(good, 3), place, c)
			told[name+" at "+strconv.Itoa(place)] = serving([]api.Service{daily(), on(1, 2)}, rides...)
		}
		told[name+" at the last of 100"] = serving([]api.Service{daily(), on(1, 2)}, with(copies(good, 100), 99, c)...)
	}
	return told
}

// extremes are numbers at the ends of what an int, a stop, and a minute may be.
func extremes() []int {
	return []int{
		math.MinInt, math.MinInt + 1, -1 << 32, -maxMinute, -day, -2, -1, 0, 1, 5, 31, 32, 33, day, span, span + 1,
		maxMinute - 1, maxMinute, maxMinute + 1, maxMinute + span, maxMinute + span + 1, 1 << 31, 1 << 32,
		math.MaxInt - span, math.MaxInt - 1, math.MaxInt,
	}
}

// isThere holds the earliest minute, and what can be by minutes around it.
func isThere(t *testing.T, name string, n api.Network, from, at, to, till, want int) {
	t.Helper()
	if least, ok, err := Earliest(n, from, at, to, till); least != want || !ok || err != nil {
		t.Error(name, "from", from, "at", at, "to", to, "till", till, "is:", least, ok, err, "for", want)
	}
	for by := max(at, want-2); by <= min(want+2, at+span); by++ {
		if is, err := Feasible(n, from, at, to, by); is != (by >= want) || err != nil {
			t.Error(name, "from", from, "at", at, "to", to, "by", by, "is:", is, err, "for", want)
		}
	}
}

func isNotThere(t *testing.T, name string, n api.Network, from, at, to, till int) {
	t.Helper()
	if least, ok, err := Earliest(n, from, at, to, till); least != 0 || ok || err != nil {
		t.Error(name, "from", from, "at", at, "to", to, "till", till, "is:", least, ok, err)
	}
	if is, err := Feasible(n, from, at, to, till); is || err != nil {
		t.Error(name, "from", from, "at", at, "to", to, "by", till, "is:", is, err)
	}
}

// isRefused asks of both calls.
func isRefused(t *testing.T, name string, n api.Network, from, at, to, till int) {
	t.Helper()
	if least, ok, err := Earliest(n, from, at, to, till); least != 0 || ok || err != error(api.ErrArg) {
		t.Error(name, "from", from, "at", at, "to", to, "till", till, "is:", least, ok, err)
	}
	if is, err := Feasible(n, from, at, to, till); is || err != error(api.ErrArg) {
		t.Error(name, "from", from, "at", at, "to", to, "by", till, "is:", is, err)
	}
}

// P13.1: May

func TestNetworksThatMayBe(t *testing.T) {
	for name, n := range rightNetworks() {
		if !May(n) || !otherMay(n) {
			t.Error(name)
		}
	}
}

func TestNetworksThatMayNotBe(t *testing.T) {
	for name, n := range wrongNetworks() {
		if May(n) || otherMay(n) {
			t.Error(name)
		}
		isRefused(t, name, n, 0, 0, 1, 100)
		isRefused(t, name, n, 5, 7, 5, 7)
	}
}

func TestHowManyServicesMayBe(t *testing.T) {
	for many := range 40 {
		n := serving(copies(daily(), many))
		if May(n) != (many <= 16) {
			t.Error(many)
		}
		n.Conns = []api.Conn{of(max(many-1, 0), conn(0, 1, 10, 20))}
		if May(n) != (many >= 1 && many <= 16) {
			t.Error("with a ride", many)
		}
	}
}

func TestHowManyRidesMayBe(t *testing.T) {
	for many := range 220 {
		if May(network(copies(conn(0, 1, 10, 20), many)...)) != (many <= 100) {
			t.Error(many)
		}
	}
	isThere(t, "100 rides", network(copies(conn(0, 1, 10, 20), 100)...), 0, 0, 1, 100, 20)
}

func TestEachPlaceOfAService(t *testing.T) {
	for many := range 17 {
		for place := -3; place < 20; place++ {
			n := serving(copies(daily(), many), of(place, conn(0, 1, 10, 20)))
			if May(n) != (place >= 0 && place < many) {
				t.Error(many, place)
			}
		}
	}
}

func TestEachStopOfARide(t *testing.T) {
	for from := -5; from < 40; from++ {
		for to := -5; to < 40; to++ {
			n := network(conn(from, to, 10, 20))
			if May(n) != (from >= 0 && from <= 31 && to >= 0 && to <= 31) {
				t.Error(from, to)
			}
			if May(n) && from != to {
				isThere(t, "a ride", n, from, 0, to, 100, 20)
			}
		}
	}
}

func TestEachDep(t *testing.T) {
	for dep := -1500; dep < 3000; dep++ {
		for _, arr := range []int{dep + 1, 2879} {
			if May(network(conn(0, 1, dep, arr))) != (dep >= 0 && dep <= 1439 && arr <= 2879) {
				t.Error(dep, arr)
			}
		}
	}
}

func TestEachArr(t *testing.T) {
	for _, dep := range []int{0, 1, 10, 719, 1438, 1439} {
		for arr := -20; arr < 3000; arr++ {
			if May(network(conn(0, 1, dep, arr))) != (arr >= dep+1 && arr <= 2879) {
				t.Error(dep, arr)
			}
		}
	}
}

func TestAWrongRideAtEachPlace(t *testing.T) {
	for name, c := range wrongRides() {
		for _, many := range []int{1, 2, 100} {
			good := copies(conn(0, 1, 10, 20), many)
			for place := range many {
				if May(serving([]api.Service{daily(), daily()}, with(good, place, c)...)) {
					t.Error(name, many, place)
				}
			}
		}
	}
}

func TestAWrongServiceAtEachPlace(t *testing.T) {
	for name, s := range wrongServices() {
		for many := 1; many <= 16; many++ {
			for place := range many {
				services := with(copies(daily(), many), place, s)
				if May(serving(services)) || May(serving(services, of((place+1)%many, conn(0, 1, 10, 20)))) {
					t.Error(name, many, place)
				}
			}
		}
	}
}

func TestMayAgainstAnotherWay(t *testing.T) {
	r := rand.New(rand.NewPCG(13, 1))
	near := func(ends ...int) int { return ends[r.IntN(len(ends))] + r.IntN(3) - 1 }
	told := [2]int{}
	for range 50000 {
		services := copies(daily(), 1+r.IntN(3))
		dep := near(1, 1, 10, 1438, 1438, 1439)
		c := api.Conn{Service: near(1, 1, len(services)-1), From: near(1, 30, 31), Dep: dep, To: near(1, 1, 31), Arr: near(dep+2, dep+2, 2878, 2879)}
		n := serving(services, c)
		if May(n) != otherMay(n) {
			t.Fatal(n)
		}
		if May(n) {
			told[1]++
		} else {
			told[0]++
		}
	}
	if min(told[0], told[1]) < 5000 {
		t.Error(told)
	}
}

// P13.1: what Earliest takes

func TestStopsThatAreNone(t *testing.T) {
	for name, n := range rightNetworks() {
		for _, stop := range []int{math.MinInt, -32, -1, 32, 33, 64, 1 << 32, math.MaxInt} {
			isRefused(t, name, n, stop, 0, 1, 100)
			isRefused(t, name, n, 0, 0, stop, 100)
			isRefused(t, name, n, stop, 0, stop, 100)
			isRefused(t, name, n, stop, 5, stop, 5)
		}
	}
}

func TestStopsAtBothEnds(t *testing.T) {
	n := network(conn(0, 31, 10, 20), conn(31, 0, 30, 40))
	isThere(t, "0 to 31", n, 0, 0, 31, 100, 20)
	isThere(t, "31 to 0", n, 31, 0, 0, 100, 40)
	isThere(t, "0", n, 0, 0, 0, 100, 0)
	isThere(t, "31", n, 31, 0, 31, 100, 0)
}

func TestMinutesThatAreNone(t *testing.T) {
	for name, n := range rightNetworks() {
		for _, at := range []int{math.MinInt, -1 << 32, -maxMinute, -day, -1, 1073741825, 1 << 31, 1 << 32, math.MaxInt - span, math.MaxInt} {
			for _, further := range []int{0, 1, 100, span} {
				isRefused(t, name, n, 0, at, 1, at+further)
				isRefused(t, name, n, 3, at, 3, at+further)
			}
			isRefused(t, name, n, 0, at, 1, 5)
		}
	}
}

func TestMinutesAtBothEnds(t *testing.T) {
	for _, at := range []int{0, 1, 1439, 1440, 1073741823, 1073741824} {
		isThere(t, "the stop itself", example(), 0, at, 0, at, at)
		isNotThere(t, "no time", example(), 0, at, 1, at)
		// A ride of each day is there within two of them.
		want := at/day*day + 20
		if at%day > 10 {
			want += day
		}
		isThere(t, "a ride", example(), 0, at, 1, at+span, want)
	}
}

func TestTillThatMayNotBe(t *testing.T) {
	for name, n := range rightNetworks() {
		for _, at := range []int{0, 1, 1440, 5000, maxMinute} {
			for _, till := range []int{math.MinInt, -maxMinute, at - span, at - 2, at - 1, at + 4321, at + 4322, at + 2*span, 1 << 32, math.MaxInt} {
				if till >= at && till <= at+4320 {
					continue
				}
				isRefused(t, name, n, 0, at, 1, till)
				isRefused(t, name, n, 3, at, 3, till)
			}
		}
	}
}

func TestTillAtBothEnds(t *testing.T) {
	for _, at := range []int{0, 1, 1440, 5000, maxMinute} {
		for further := -3; further < span+4; further++ {
			_, ok, err := Earliest(api.Network{}, 3, at, 3, at+further)
			if taken := further >= 0 && further <= 4320; ok != taken || (err == nil) != taken {
				t.Error(at, further, ok, err)
			}
		}
	}
}

// P13.1, P13.2: the minute

func TestTheExample(t *testing.T) {
	isThere(t, "all of it", example(), 0, 0, 2, 30, 30)
	isThere(t, "all of it", example(), 0, 10, 2, 100, 30)
	isThere(t, "the first", example(), 0, 0, 1, 100, 20)
	isThere(t, "the second", example(), 1, 20, 2, 100, 30)
	isThere(t, "the day behind", example(), 0, 11, 2, 2000, 1470)
	isNotThere(t, "too late", example(), 0, 11, 2, 1469)
	isNotThere(t, "too soon", example(), 0, 0, 2, 29)
	isNotThere(t, "back", example(), 2, 0, 0, span)
	isNotThere(t, "elsewhere", example(), 0, 0, 3, span)
}

func TestNoRides(t *testing.T) {
	for _, n := range []api.Network{
		{}, {Services: []api.Service{}, Conns: []api.Conn{}}, {Services: []api.Service{daily()}},
		{Services: []api.Service{daily()}, Conns: []api.Conn{}},
	} {
		for from := range 32 {
			for to := range 32 {
				if from == to {
					isThere(t, "itself", n, from, 5, to, 5+span, 5)
				} else {
					isNotThere(t, "another", n, from, 5, to, 5+span)
				}
			}
		}
	}
}

func TestFromTheSameAsTo(t *testing.T) {
	ring := network(conn(0, 1, 10, 20), conn(1, 0, 20, 30), conn(0, 0, 0, 5), conn(0, 0, 7, 8))
	for _, at := range []int{0, 5, 7, 9, 10, 11, 30, 1439, 1440, maxMinute} {
		for _, further := range []int{0, 1, 100, span} {
			isThere(t, "itself", ring, 0, at, 0, at+further, at)
			isThere(t, "itself", ring, 1, at, 1, at+further, at)
		}
	}
}

func TestARideToItsOwnStopLeadsNowhere(t *testing.T) {
	loop := conn(0, 0, 5, 100)
	isNotThere(t, "alone", network(loop), 0, 0, 1, span)
	for _, rides := range [][]api.Conn{{loop, conn(0, 1, 10, 20)}, {conn(0, 1, 10, 20), loop}} {
		isThere(t, "one stays", network(rides...), 0, 0, 1, 100, 20)
	}
}

func TestARideThatBeginsAsAnotherOneEnds(t *testing.T) {
	for begins := 18; begins <= 23; begins++ {
		for _, n := range []api.Network{
			network(conn(0, 1, 10, 20), conn(1, 2, begins, 50)),
			network(conn(1, 2, begins, 50), conn(0, 1, 10, 20)),
		} {
			want := 50
			if begins < 20 {
				want += day
			}
			isThere(t, strconv.Itoa(begins), n, 0, 0, 2, span, want)
		}
	}
	missed := network(conn(0, 1, 10, 20), conn(1, 2, 19, 50))
	isNotThere(t, "one minute ahead", missed, 0, 0, 2, 50)
	isNotThere(t, "one minute ahead", missed, 0, 0, 2, day+49)
}

func TestARideThatBeginsAtTheMinute(t *testing.T) {
	for _, dep := range []int{0, 1, 10, 719, 1438, 1439} {
		n := network(conn(0, 1, dep, dep+7))
		for _, first := range []int{0, 1, 50, lastDay - 1} {
			at := first*day + dep
			isThere(t, "at it", n, 0, at, 1, at+span, at+7)
			isThere(t, "ahead of it", n, 0, max(at-1, 0), 1, at+span-1, at+7)
			isThere(t, "behind it", n, 0, at+1, 1, at+span, at+day+7)
			isNotThere(t, "behind it", n, 0, at+1, 1, at+day+6)
		}
	}
}

func TestARideThatEndsAtTill(t *testing.T) {
	for _, arr := range []int{11, 20, 1439, 1440, 1441, 2878, 2879} {
		n := network(conn(0, 1, 10, arr))
		for _, first := range []int{0, 1, 50, lastDay} {
			at := first * day
			isThere(t, "at it", n, 0, at, 1, at+arr, at+arr)
			isThere(t, "ahead of it", n, 0, at, 1, at+arr+1, at+arr)
			isNotThere(t, "behind it", n, 0, at, 1, at+arr-1)
		}
	}
}

func TestARideThatEndsAtTheSpansEnd(t *testing.T) {
	// At minute 10, the ride of day 3 at 5 to 10 ends when three days are over.
	n := serving([]api.Service{on(3)}, conn(0, 1, 5, 10))
	isThere(t, "at it", n, 0, 10, 1, 10+span, 10+span)
	isNotThere(t, "behind it", n, 0, 9, 1, 9+span)
}

func TestRidesThatEndOnTheDayBehind(t *testing.T) {
	n := network(conn(0, 1, 1430, 1450), conn(1, 2, 10, 20), conn(2, 3, 20, 1460))
	isThere(t, "across", n, 0, 0, 1, span, 1450)
	isThere(t, "and on", n, 0, 0, 2, span, 1460)
	isThere(t, "and across again", n, 0, 0, 3, span, 2900)
	isThere(t, "a day later", n, 0, 1431, 2, 1431+span, 2900)
	missed := network(conn(0, 1, 1430, 1450), conn(1, 2, 9, 20))
	isThere(t, "just missed", missed, 0, 0, 2, span, 2900)
	isThere(t, "to midnight", network(conn(0, 1, 1439, 1440), conn(1, 2, 0, 1)), 0, 0, 2, span, 1441)
	isThere(t, "the longest", network(conn(0, 1, 0, 2879)), 0, 0, 1, span, 2879)
	isThere(t, "the latest", network(conn(0, 1, 1439, 2879)), 0, 0, 1, span, 2879)
}

func TestRidesOfTheDayAhead(t *testing.T) {
	// The ride goes on day 4 alone.
	ahead := serving([]api.Service{on(4)}, conn(0, 1, 1430, 2000))
	for _, at := range []int{4 * day, 4*day + 1429, 4*day + 1430} {
		isThere(t, "still to begin", ahead, 0, at, 1, at+span, 4*day+2000)
	}
	for _, at := range []int{4*day + 1431, 5 * day, 5*day + 300, 5*day + 559, 5*day + 560, 5*day + 561} {
		isNotThere(t, "under way, or over", ahead, 0, at, 1, at+span)
		isNotThere(t, "where it ends", ahead, 1, at, 0, at+span)
	}
	// Who is at its end by then goes on from there; who missed it, or is elsewhere, doesn't.
	on5 := serving([]api.Service{on(4), on(5)}, conn(0, 1, 1430, 2000), of(1, conn(1, 3, 560, 570)))
	isThere(t, "and on", on5, 0, 4*day+1430, 3, 6*day, 5*day+570)
	isNotThere(t, "one behind it", on5, 0, 4*day+1431, 3, 7*day)
	isNotThere(t, "from elsewhere", on5, 2, 4*day, 3, 7*day)
	isThere(t, "from its end", on5, 1, 5*day+560, 3, 8*day, 5*day+570)
	// Nobody gets on the one of the day ahead while it is under way.
	each := network(conn(0, 1, 1430, 2879))
	isThere(t, "its own day's", each, 0, 5*day, 1, 5*day+span, 5*day+2879)
}

func TestAcrossMidnightItIsTheDayOfTheBeginningThatCounts(t *testing.T) {
	night := conn(0, 1, 1430, 1450)
	isThere(t, "day 4's", serving([]api.Service{on(4)}, night), 0, 4*day, 1, 4*day+span, 4*day+1450)
	isNotThere(t, "not day 5's", serving([]api.Service{on(5)}, night), 0, 4*day, 1, 4*day+1450)
	isThere(t, "day 5's", serving([]api.Service{on(5)}, night), 0, 4*day, 1, 4*day+span, 5*day+1450)
	// The second one's own day runs, the first one's doesn't matter by then.
	morning := of(1, conn(1, 2, 10, 20))
	n := serving([]api.Service{on(4), on(5)}, night, morning)
	isThere(t, "and on", n, 0, 4*day, 2, 4*day+span, 5*day+20)
	n = serving([]api.Service{on(4), on(4)}, night, morning)
	isNotThere(t, "and not on", n, 0, 4*day, 2, 4*day+span)
}

func TestTheLastDayOfAll(t *testing.T) {
	n := network(conn(0, 1, 64, 70), conn(1, 2, 70, 2879), conn(0, 3, 63, 70), conn(3, 4, 10, 1450))
	isThere(t, "at MaxMinute", n, 0, maxMinute, 1, maxMinute+span, lastDay*day+70)
	isThere(t, "and on", n, 0, maxMinute, 2, maxMinute+span, lastDay*day+2879)
	isThere(t, "begun by then", n, 0, maxMinute, 3, maxMinute+span, (lastDay+1)*day+70)
	isThere(t, "behind MaxMinute", n, 0, maxMinute, 4, maxMinute+span, (lastDay+2)*day+1450)
	for ahead := range 4 {
		extra := serving([]api.Service{on(lastDay + ahead)}, conn(0, 1, 64, 65))
		if ahead < 3 {
			isThere(t, "extra", extra, 0, maxMinute, 1, maxMinute+span, maxMinute+ahead*day+1)
		} else {
			isNotThere(t, "extra, too late", extra, 0, maxMinute, 1, maxMinute+span)
		}
	}
	last := serving([]api.Service{{Week: 127, To: lastDay + 1}}, conn(0, 1, 64, 65))
	isThere(t, "the last that runs", last, 0, maxMinute, 1, maxMinute+span, maxMinute+1)
	before := serving([]api.Service{{Week: 127, To: lastDay}}, conn(0, 1, 64, 65))
	isThere(t, "the last that runs", before, 0, maxMinute-day, 1, maxMinute+1, maxMinute-day+1)
	isNotThere(t, "it ran ahead of it", before, 0, maxMinute, 1, maxMinute+span)
}

func TestTheFirstDayOfAll(t *testing.T) {
	n := network(conn(0, 1, 0, 1), conn(1, 2, 1, 1441))
	isThere(t, "at 0", n, 0, 0, 1, 1, 1)
	isThere(t, "and on", n, 0, 0, 2, span, 1441)
	isThere(t, "begun by then", n, 0, 1, 1, span, 1441)
}

func TestDaysOnWhichAServiceRuns(t *testing.T) {
	// Days 1 and 8 are of weekday 1.
	weekly := func(s api.Service) api.Network { return serving([]api.Service{s}, conn(0, 1, 10, 20)) }
	s := api.Service{Week: 2, To: 14}
	isThere(t, "its weekday", weekly(s), 0, day, 1, day+span, day+20)
	isThere(t, "waiting for it", weekly(s), 0, 0, 1, span, day+20)
	isNotThere(t, "behind it", weekly(s), 0, 2*day, 1, 2*day+span)
	isNotThere(t, "till it", weekly(s), 0, 5*day, 1, 8*day)
	isThere(t, "the next one", weekly(s), 0, 6*day, 1, 9*day, 8*day+20)
	isNotThere(t, "at To and behind", weekly(s), 0, 14*day, 1, 14*day+span)
	s.Extra = []int{3, 20}
	isThere(t, "extra", weekly(s), 0, 2*day, 1, 2*day+span, 3*day+20)
	isThere(t, "extra, behind To", weekly(s), 0, 19*day, 1, 19*day+span, 20*day+20)
	isNotThere(t, "extra, over", weekly(s), 0, 20*day+11, 1, 20*day+11+span)
	s.Except = []int{1, 5}
	isThere(t, "excepted", weekly(s), 0, day, 1, day+span, 3*day+20)
	isNotThere(t, "excepted", weekly(s), 0, day, 1, 3*day+19)
	isThere(t, "others stay", weekly(s), 0, 6*day, 1, 9*day, 8*day+20)
	isNotThere(t, "no week", weekly(api.Service{To: 14}), 0, 0, 1, span)
	isNotThere(t, "no days", weekly(api.Service{Week: 127}), 0, 0, 1, span)
}

func TestEachRideHasItsOwnService(t *testing.T) {
	services := []api.Service{on(2), on(0), on(1), on()}
	for place, first := range map[int]int{0: 2, 1: 0, 2: 1} {
		isThere(t, strconv.Itoa(place), serving(services, of(place, conn(0, 1, 10, 20))), 0, 0, 1, span, first*day+20)
	}
	isNotThere(t, "never", serving(services, of(3, conn(0, 1, 10, 20))), 0, 0, 1, span)
	all := serving(services, of(0, conn(2, 3, 10, 20)), of(2, conn(1, 2, 10, 20)), of(1, conn(0, 1, 10, 20)))
	isThere(t, "one a day", all, 0, 0, 3, span, 2*day+20)
	other := serving(services, of(0, conn(0, 1, 10, 20)), of(2, conn(1, 2, 10, 20)), of(1, conn(2, 3, 10, 20)))
	isNotThere(t, "in the wrong order", other, 0, 0, 3, span)
	sixteen := make([]api.Service, 16)
	for place := range sixteen {
		sixteen[place] = on(place / 6)
	}
	for place := range sixteen {
		isThere(t, "of 16", serving(sixteen, of(place, conn(0, 1, 10, 20))), 0, 0, 1, span, place/6*day+20)
	}
}

func TestTheSameRideOnTwoDays(t *testing.T) {
	// What is missed on the first day goes on the second.
	late := network(conn(0, 1, 600, 700), conn(1, 2, 650, 660), conn(2, 3, 500, 510), conn(3, 4, 510, 1950))
	isThere(t, "to 2", late, 0, 0, 2, span, day+660)
	isThere(t, "to 3", late, 0, 0, 3, span, 2*day+510)
	isNotThere(t, "to 4", late, 0, 0, 4, span)
	isThere(t, "to 4, from 1", late, 1, 600, 4, 600+span, day+1950)
	// There, back, and there again.
	again := network(conn(0, 1, 600, 700), conn(1, 0, 800, 900))
	isThere(t, "there", again, 0, 0, 1, span, 700)
	isThere(t, "back", again, 1, 700, 0, 700+span, 900)
	isThere(t, "there again", again, 0, 900, 1, 900+span, day+700)
	// One that is under way when it goes anew: each of both counts.
	slow := network(conn(0, 1, 600, 2200), conn(0, 2, 610, 620), conn(2, 1, 700, 710))
	isThere(t, "the first", network(conn(0, 1, 600, 2200)), 0, 600, 1, 600+span, 2200)
	isThere(t, "the second", network(conn(0, 1, 600, 2200)), 0, 601, 1, 601+span, day+2200)
	isThere(t, "another way", slow, 0, 601, 1, 601+span, 710)
}

func TestRidesInTheWrongOrderOfTime(t *testing.T) {
	for rides := 1; rides <= 31; rides++ {
		isThere(t, "in order", line(rides, false), 0, 0, rides, span, 10*rides)
		isThere(t, "in the other", line(rides, true), 0, 0, rides, span, 10*rides)
	}
	r := rand.New(rand.NewPCG(13, 2))
	for range 50 {
		isThere(t, "in any", shuffled(r, line(31, false)), 0, 0, 31, span, 310)
	}
	early := network(conn(0, 1, 30, 40), conn(0, 1, 20, 30), conn(0, 1, 10, 20), conn(0, 1, 25, 26))
	isThere(t, "the first of four", early, 0, 0, 1, span, 20)
	isThere(t, "the third of four", early, 0, 11, 1, span, 26)
	isThere(t, "the last of four", early, 0, 26, 1, span, 40)
}

func TestRidesThatBeginTogether(t *testing.T) {
	for _, n := range []api.Network{
		network(conn(0, 1, 10, 20), conn(0, 1, 10, 15), conn(0, 1, 10, 25)),
		network(conn(0, 1, 10, 15), conn(0, 1, 10, 20)),
		network(conn(0, 1, 10, 25), conn(0, 1, 10, 15), conn(0, 2, 10, 11)),
	} {
		isThere(t, "the quickest", n, 0, 0, 1, span, 15)
	}
	n := network(conn(0, 1, 10, 20), conn(1, 2, 10, 30), conn(1, 2, 20, 50), conn(0, 2, 20, 60), conn(0, 2, 9, 55))
	isThere(t, "both at 20", n, 0, 0, 2, span, 50)
}

func TestARing(t *testing.T) {
	var l []api.Conn
	for stop := range 32 {
		l = append(l, conn(stop, (stop+1)%32, 40*stop, 40*stop+40))
	}
	for from := range 32 {
		for to := range 32 {
			want := 40 * to
			switch {
			case from == to:
				want = 0
			case to == 0:
				want = 1280
			case to < from:
				// Round by 0, at minute 1280, and on from there the next day.
				want += day
			}
			isThere(t, "the ring", network(l...), from, 0, to, span, want)
			slices.Reverse(l)
		}
	}
}

func TestMoreRidesMayBeSooner(t *testing.T) {
	more := []api.Conn{conn(0, 1, 10, 15), conn(1, 2, 15, 20), conn(2, 3, 22, 30)}
	for _, direct := range []api.Conn{conn(0, 3, 5, 31), conn(0, 3, 10, 40), conn(0, 3, 29, 40), conn(0, 3, 9, 2879)} {
		isThere(t, "three", network(append(more, direct)...), 0, 0, 3, span, 30)
		isThere(t, "three", network(append([]api.Conn{direct}, more...)...), 0, 0, 3, span, 30)
	}
	for _, direct := range []api.Conn{conn(0, 3, 5, 29), conn(0, 3, 28, 29), conn(0, 3, 0, 29)} {
		isThere(t, "one", network(append(more, direct)...), 0, 0, 3, span, 29)
		isThere(t, "one", network(append([]api.Conn{direct}, more...)...), 0, 0, 3, span, 29)
	}
}

func TestThreeDaysOfWaiting(t *testing.T) {
	for _, first := range []int{0, 1, 1000, lastDay - 4} {
		for dep := range day {
			n := serving([]api.Service{on(first + 3)}, conn(0, 1, dep, dep+1))
			begin := (first+3)*day + dep
			if at := begin + 1 - span; at >= 0 {
				isThere(t, "to the minute", n, 0, at, 1, at+span, begin+1)
				isNotThere(t, "one fewer", n, 0, at, 1, at+span-1)
			}
			if at := begin - span; at >= 0 {
				isNotThere(t, "one too soon", n, 0, at, 1, at+span)
			}
		}
	}
}

func TestOnesOwnStopIsStayedAt(t *testing.T) {
	n := network(conn(0, 1, 1000, 1010), conn(1, 2, 100, 110))
	isThere(t, "through the night", n, 0, 0, 2, span, day+110)
	isThere(t, "and the day", n, 0, 1001, 2, span, 2*day+110)
}

func TestEarliestGoesByTillAlone(t *testing.T) {
	n := example()
	for till := range span + 1 {
		least, ok, err := Earliest(n, 0, 0, 2, till)
		if ok != (till >= 30) || err != nil || ok && least != 30 || !ok && least != 0 {
			t.Fatal(till, least, ok, err)
		}
	}
}

// chosenNetwork has few stops and rides that often meet.
func chosenNetwork(r *rand.Rand, stops, rides int) api.Network {
	var n api.Network
	for range 1 + r.IntN(4) {
		s := api.Service{Week: r.IntN(128), From: r.IntN(4), To: 4 + r.IntN(9)}
		for d := r.IntN(4); d < 14; d += 1 + r.IntN(6) {
			if r.IntN(2) == 0 {
				s.Extra = append(s.Extra, d)
			} else {
				s.Except = append(s.Except, d)
			}
		}
		n.Services = append(n.Services, s)
	}
	for range rides {
		dep := r.IntN(day)
		if r.IntN(2) == 0 {
			dep -= dep % 60
		}
		arr := dep + 1 + r.IntN(2879-dep)
		switch r.IntN(3) {
		case 0:
			arr = dep + 1
		case 1:
			arr = dep + 60
		}
		n.Conns = append(n.Conns, api.Conn{Service: r.IntN(len(n.Services)), From: r.IntN(stops), Dep: dep, To: r.IntN(stops), Arr: arr})
	}
	return n
}

func TestAgainstGoingMinuteByMinute(t *testing.T) {
	r := rand.New(rand.NewPCG(13, 3))
	told := [2]int{}
	for range 400 {
		stops := 2 + r.IntN(8)
		n := chosenNetwork(r, stops, r.IntN(30))
		from, to, at := r.IntN(stops), r.IntN(stops), r.IntN(11*day)
		till := at + r.IntN(span+1)
		least, ok, err := Earliest(n, from, at, to, till)
		want, found := otherEarliest(n, from, at, to, till)
		if least != want || ok != found || err != nil {
			t.Fatal(n, from, at, to, till, "is:", least, ok, err, "for", want, found)
		}
		is, err := Feasible(n, from, at, to, till)
		if is != found || err != nil {
			t.Fatal(n, from, at, to, till, "is:", is, err)
		}
		if !found {
			told[0]++
			continue
		}
		told[1]++
		isThere(t, "chosen", n, from, at, to, till, want)
	}
	if min(told[0], told[1]) < 50 {
		t.Error(told)
	}
}

func TestAgainstGoingMinuteByMinuteToEachStop(t *testing.T) {
	r := rand.New(rand.NewPCG(13, 4))
	for range 12 {
		n := chosenNetwork(r, 32, 100)
		from, at := r.IntN(32), r.IntN(11*day)
		for to := range 32 {
			least, ok, err := Earliest(n, from, at, to, at+span)
			want, found := otherEarliest(n, from, at, to, at+span)
			if least != want || ok != found || err != nil {
				t.Fatal(n, from, at, to, "is:", least, ok, err, "for", want, found)
			}
		}
	}
}

func TestAgainstGoingMinuteByMinuteAtTheLastDays(t *testing.T) {
	r := rand.New(rand.NewPCG(13, 5))
	for range 60 {
		n := chosenNetwork(r, 5, 20)
		for i := range n.Services {
			s := &n.Services[i]
			*s = api.Service{Week: r.IntN(128), To: lastDay + r.IntN(5), Extra: []int{lastDay + r.IntN(4)}}
		}
		from, to, at := r.IntN(5), r.IntN(5), maxMinute-r.IntN(2*day)
		till := at + r.IntN(span+1)
		least, ok, err := Earliest(n, from, at, to, till)
		want, found := otherEarliest(n, from, at, to, till)
		if least != want || ok != found || err != nil {
			t.Fatal(n, from, at, to, till, "is:", least, ok, err, "for", want, found)
		}
	}
}

// P13.2

func TestFeasibleIsRefusedWhereEarliestIs(t *testing.T) {
	n := example()
	for _, from := range []int{-1, 0, 31, 32} {
		for _, to := range []int{-1, 0, 2, 31, 32} {
			for _, at := range []int{-1, 0, 10, maxMinute, maxMinute + 1} {
				for _, by := range []int{at - 1, at, at + 30, at + span, at + span + 1} {
					_, ok, wrong := Earliest(n, from, at, to, by)
					is, err := Feasible(n, from, at, to, by)
					if is != ok || err != wrong {
						t.Error(from, at, to, by, is, err, "for", ok, wrong)
					}
				}
			}
		}
	}
}

func TestFeasibleFromItsMinuteOn(t *testing.T) {
	for by := range span + 1 {
		if is, err := Feasible(example(), 0, 0, 2, by); is != (by >= 30) || err != nil {
			t.Fatal(by, is, err)
		}
	}
}

// P13.3

func callAll(n api.Network) {
	May(n)
	for _, at := range []int{-1, 0, 11, 5 * day, maxMinute, maxMinute + 1} {
		Earliest(n, 0, at, 2, at+span)
		Feasible(n, 0, at, 2, at+100)
	}
}

// handed is a network whose lists have more behind them that an append would
// write over, those that it has in all, and its services' days, likewise.
func handed(n api.Network) (given api.Network, services []api.Service, conns []api.Conn, days [][]int) {
	services = append(slices.Clone(n.Services), daily(), on(7), api.Service{Week: -5})
	for i := range n.Services {
		s := &services[i]
		extra, except := append(slices.Clone(s.Extra), 7, -1), append(slices.Clone(s.Except), 3, -1)
		s.Extra, s.Except = extra[:len(s.Extra)], except[:len(s.Except)]
		days = append(days, extra, except)
	}
	conns = append(slices.Clone(n.Conns), conn(0, 2, 0, 1), conn(-1, -1, -1, -1), conn(5, 5, 5, 5))
	return api.Network{Services: services[:len(n.Services)], Conns: conns[:len(n.Conns)]}, services, conns, days
}

func sameService(a, b api.Service) bool {
	return a.Week == b.Week && a.From == b.From && a.To == b.To &&
		slices.Equal(a.Extra, b.Extra) && slices.Equal(a.Except, b.Except)
}

func TestNetworksThatAreHandedInStay(t *testing.T) {
	all := rightNetworks()
	for name, n := range wrongNetworks() {
		all["wrong, "+name] = n
	}
	all["backwards"] = line(31, true)
	r := rand.New(rand.NewPCG(13, 6))
	for i := range 20 {
		all["chosen "+strconv.Itoa(i)] = chosenNetwork(r, 5, 40)
	}
	for name, n := range all {
		_, wasServices, wasConns, wasDays := handed(n)
		given, services, conns, days := handed(n)
		callAll(given)
		if !slices.EqualFunc(services, wasServices, sameService) || !slices.Equal(conns, wasConns) {
			t.Error(name)
		}
		if !slices.EqualFunc(days, wasDays, slices.Equal[[]int]) {
			t.Error(name, "days")
		}
	}
}

func TestNothingIsKept(t *testing.T) {
	n := example()
	isThere(t, "as it was", n, 0, 0, 2, span, 30)
	n.Conns[1].Arr = 40
	isThere(t, "as it is now", n, 0, 0, 2, span, 40)
	n.Services[0].Except = []int{0}
	isThere(t, "another day", n, 0, 0, 2, span, day+40)
	n.Services[0].Week = 128
	isRefused(t, "may not be now", n, 0, 0, 2, span)
	n.Services[0] = daily()
	n.Conns[1].Arr = 30
	isThere(t, "back again", n, 0, 0, 2, span, 30)
}

// P13.4

// sooner tells whether one answer is no later than another one.
func sooner(least int, ok bool, other int, found bool) bool {
	return !found || ok && least <= other
}

func TestWhoLeavesLaterIsntThereEarlier(t *testing.T) {
	r := rand.New(rand.NewPCG(13, 7))
	for range 40 {
		n := chosenNetwork(r, 5, 25)
		from, to, at := r.IntN(5), r.IntN(5), r.IntN(9*day)
		till := at + span
		least, ok, _ := Earliest(n, from, at, to, till)
		for later := at + 1; later <= till; later += 1 + r.IntN(30) {
			other, found, err := Earliest(n, from, later, to, till)
			if !sooner(least, ok, other, found) || err != nil {
				t.Fatal(n, from, at, later, to, "is:", least, ok, other, found, err)
			}
			least, ok = other, found
		}
	}
	leaving := network(conn(0, 1, 10, 50), conn(0, 1, 20, 30))
	isThere(t, "the later one is sooner", leaving, 0, 0, 1, span, 30)
	isThere(t, "the later one is sooner", leaving, 0, 20, 1, span, 30)
	isThere(t, "it is gone", leaving, 0, 21, 1, span, day+30)
}

func TestWithARideMoreOneIsntThereLater(t *testing.T) {
	r := rand.New(rand.NewPCG(13, 8))
	for range 60 {
		n := chosenNetwork(r, 5, 20)
		from, to, at := r.IntN(5), r.IntN(5), r.IntN(9*day)
		least, ok, _ := Earliest(n, from, at, to, at+span)
		for place := range n.Conns {
			other, found, err := Earliest(without(n, place), from, at, to, at+span)
			if !sooner(least, ok, other, found) || err != nil {
				t.Fatal(n, from, at, to, place, "is:", least, ok, other, found, err)
			}
		}
	}
	isThere(t, "a ride fewer", without(network(conn(0, 1, 5, 9), conn(0, 1, 7, 20)), 0), 0, 0, 1, span, 20)
	isThere(t, "a ride more", network(conn(0, 1, 5, 9), conn(0, 1, 7, 20)), 0, 0, 1, span, 9)
}

func TestGoingOnFromAStop(t *testing.T) {
	r := rand.New(rand.NewPCG(13, 9))
	gone := 0
	for range 300 {
		n := chosenNetwork(r, 5, 25)
		from, by, to, at := r.IntN(5), r.IntN(5), r.IntN(5), r.IntN(9*day)
		between, ok, _ := Earliest(n, from, at, by, at+span)
		if !ok {
			continue
		}
		end, ok, _ := Earliest(n, by, between, to, at+span)
		if !ok {
			continue
		}
		gone++
		least, ok, err := Earliest(n, from, at, to, at+span)
		if !ok || least > end || err != nil {
			t.Fatal(n, from, at, by, between, to, end, "is:", least, ok, err)
		}
		if is, err := Feasible(n, from, at, to, end); !is || err != nil {
			t.Fatal(n, from, at, by, between, to, end, "is:", is, err)
		}
	}
	if gone < 50 {
		t.Error(gone)
	}
}

func TestTheOrderOfRidesIsNothing(t *testing.T) {
	r := rand.New(rand.NewPCG(13, 10))
	for range 100 {
		n := chosenNetwork(r, 5, 30)
		from, to, at := r.IntN(5), r.IntN(5), r.IntN(9*day)
		least, ok, _ := Earliest(n, from, at, to, at+span)
		other, found, err := Earliest(shuffled(r, n), from, at, to, at+span)
		if least != other || ok != found || err != nil {
			t.Fatal(n, from, at, to, least, ok, other, found, err)
		}
	}
}

// P1

func TestEveryCallEnds(t *testing.T) {
	networks := []api.Network{
		{}, example(), line(100, true), network(copies(conn(0, 0, 0, 1), 100)...),
		network(copies(conn(0, 1, 10, 20), 5000)...), serving(copies(daily(), 500)), network(make([]api.Conn, 100)...),
		network(conn(math.MaxInt, math.MinInt, math.MaxInt, math.MinInt)), serving(nil, conn(0, 1, 10, 20)),
		serving([]api.Service{{Week: math.MinInt, From: math.MinInt, To: math.MaxInt}}, conn(0, 1, 10, 20)),
	}
	for _, n := range networks {
		for _, from := range []int{math.MinInt, -1, 0, 31, 32, math.MaxInt} {
			for _, to := range []int{math.MinInt, -1, 0, 1, 31, 32, math.MaxInt} {
				for _, at := range extremes() {
					for _, till := range extremes() {
						least, ok, err := Earliest(n, from, at, to, till)
						if is, wrong := Feasible(n, from, at, to, till); is != ok || wrong != err {
							t.Fatal(from, at, to, till, is, wrong)
						}
						if !ok && least != 0 || ok && (err != nil || least < at || least > till) {
							t.Fatal(from, at, to, till, least, ok, err)
						}
					}
				}
			}
		}
	}
}
