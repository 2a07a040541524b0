package device

import (
	"math"
	"slices"
	"testing"

	"clapper/api"
)

// P18.2: Load

// wrongKeys, wrongRevoked and wrongProducts may not be.
func wrongKeys() map[string][]api.Key {
	q := officeKey()
	off := q
	off.X[0] ^= 1
	var many []api.Key
	for id := 1; id <= 33; id++ {
		many = append(many, api.Key{Id: id, Q: q, To: maxMinute})
	}
	return map[string][]api.Key{
		"Id 0":         {{Id: 0, Q: q, To: maxMinute}},
		"Id too great": {{Id: 1, Q: q, To: maxMinute}, {Id: maxSerial + 1, Q: q, To: maxMinute}},
		"an Id twice":  {{Id: 1, Q: q, To: maxMinute}, {Id: 1, Q: q, To: maxMinute}},
		"falling Ids":  {{Id: 2, Q: q, To: maxMinute}, {Id: 1, Q: q, To: maxMinute}},
		"off":          {{Id: 1, Q: off, To: maxMinute}},
		"Far":          {{Id: 1, Q: api.Point{Far: true}, To: maxMinute}},
		"no Q":         {{Id: 1, Q: q, To: maxMinute}, {Id: 2, To: maxMinute}},
		"From":         {{Id: 1, Q: q, From: -1, To: maxMinute}},
		"To":           {{Id: 1, Q: q, To: maxMinute + 1}},
		"To below":     {{Id: 1, Q: q, From: 2, To: 1}},
		"too many":     many,
	}
}

func wrongRevoked() map[string][]api.Revoked {
	var many []api.Revoked
	for serial := 1; serial <= 201; serial++ {
		many = append(many, api.Revoked{Serial: serial})
	}
	return map[string][]api.Revoked{
		"Serial 0":         {{Serial: 0}},
		"Serial too great": {{Serial: 7}, {Serial: maxSerial + 1}},
		"a Serial twice":   {{Serial: 7}, {Serial: 7}},
		"falling Serials":  {{Serial: 8}, {Serial: 7}},
		"From":             {{Serial: 7, From: -1}},
		"From too great":   {{Serial: 7, From: maxMinute + 1}},
		"too many":         many,
	}
}

func wrongProducts() map[string][]api.Product {
	var many []api.Product
	for id := 1; id <= 17; id++ {
		many = append(many, api.Product{Id: id, Minutes: 60, Service: daily()})
	}
	return map[string][]api.Product{
		"Id 0":             {{Id: 0, Minutes: 60, Service: daily()}},
		"Id too great":     {{Id: 17, Minutes: 60, Service: daily()}},
		"an Id twice":      {{Id: 2, Minutes: 60, Service: daily()}, {Id: 2, Minutes: 60, Service: daily()}},
		"falling Ids":      {{Id: 3, Minutes: 60, Service: daily()}, {Id: 2, Minutes: 60, Service: daily()}},
		"Minutes 0":        {{Id: 2, Minutes: 0, Service: daily()}},
		"too many Minutes": {{Id: 2, Minutes: 1048577, Service: daily()}},
		"its Week":         {{Id: 2, Minutes: 60, Service: api.Service{Week: 128, To: 10}}},
		"its Extra":        {{Id: 2, Minutes: 60, Service: api.Service{Week: 1, To: 10, Extra: []int{3, 2}}}},
		"a second one's":   {{Id: 2, Minutes: 60, Service: daily()}, {Id: 3, Minutes: 60, Service: api.Service{From: 2, To: 1}}},
		"too many":         many,
	}
}

// showsAll holds that each showing has the verdict that it has by usual data.
func (x *both) showsAll() {
	x.Helper()
	for verdict := 1; verdict <= 7; verdict++ {
		x.shows(verdict, usualAt)
	}
}

// TestDataThatMayNotBe has one list each that may not be; the others would
// change verdicts, if they were taken.
func TestDataThatMayNotBe(t *testing.T) {
	t.Parallel()
	unlike := api.Data{
		Revoked:  []api.Revoked{{Serial: 7}, {Serial: 12}},
		Products: []api.Product{{Id: 3, Minutes: 60, Service: daily()}},
	}
	var wrong []api.Data
	for _, l := range wrongKeys() {
		wrong = append(wrong, api.Data{Keys: l}, api.Data{Keys: l, Revoked: unlike.Revoked, Products: unlike.Products})
	}
	for _, l := range wrongRevoked() {
		wrong = append(wrong, api.Data{Revoked: l}, api.Data{Keys: usualData().Keys, Revoked: l, Products: unlike.Products})
	}
	for _, l := range wrongProducts() {
		wrong = append(wrong, api.Data{Products: l}, api.Data{Keys: usualData().Keys, Revoked: unlike.Revoked, Products: l})
	}
	x := working(t, 200000)
	for i, data := range wrong {
		x.loads(i, data, api.ErrArg)
		x.showsAll()
	}
	x.isChain("wrong data")

	x = fresh(t, plenty)
	for i, data := range wrong {
		x.loads(i, data, api.ErrArg)
	}
	x.begins("none loaded", usualStop, usualZone, done)
	x.scans("none loaded", shown(1), usualAt, 3)
}

func TestTheGreatestDataThatMayBe(t *testing.T) {
	var data api.Data
	for id := 1; id <= 200; id++ {
		data.Revoked = append(data.Revoked, api.Revoked{Serial: 100 + id})
		if id <= 32 {
			data.Keys = append(data.Keys, api.Key{Id: id, Q: officeKey(), To: maxMinute})
		}
		if id <= 16 {
			data.Products = append(data.Products, api.Product{Id: id, Minutes: 1048576, Service: daily()})
		}
	}
	x := fresh(t, plenty)
	x.loads("greatest", data, done)
	x.begins("greatest", usualStop, usualZone, done)
	for i, c := range []struct {
		x       api.Ticket
		verdict int
	}{
		{api.Ticket{Serial: 100, Product: 16, Zones: 2, Key: 32}, 1},
		{api.Ticket{Serial: 300, Product: 16, Zones: 2, Key: 32}, 4},
		{api.Ticket{Serial: 301, Product: 1, Zones: 2, Key: 1}, 1},
		{api.Ticket{Serial: 301, Product: 1, Zones: 2, Key: 33}, 3},
	} {
		x.scans(i, issue(c.x, 5), 1048575, c.verdict)
	}
}

// TestLoadOfNothing is of a device with data, and of one without.
func TestLoadOfNothing(t *testing.T) {
	for _, nothing := range []api.Data{{}, {Keys: []api.Key{}, Revoked: []api.Revoked{}, Products: []api.Product{}}} {
		x := working(t, 2*plenty)
		x.showsAll()
		x.loads("nothing", nothing, done)
		for verdict := 1; verdict <= 7; verdict++ {
			want := 3
			if verdict == 2 {
				want = 2
			}
			x.scans("nothing", shown(verdict), usualAt, want)
		}
		x.loads("again", usualData(), done)
		x.showsAll()
	}
}

// TestEachListIsTheNewOne has one list each changed.
func TestEachListIsTheNewOne(t *testing.T) {
	x := working(t, plenty)
	for _, c := range []struct {
		name    string
		change  func(x *api.Data)
		verdict int
	}{
		{"keys", func(x *api.Data) { x.Keys = nil }, 3},
		{"another key", func(x *api.Data) { x.Keys[0].Id = 2 }, 3},
		{"revoked", func(x *api.Data) { x.Revoked = []api.Revoked{{Serial: 7, From: usualAt}} }, 4},
		{"products", func(x *api.Data) { x.Products = nil }, 7},
		{"another product", func(x *api.Data) { x.Products[0].Minutes = 20 }, 6},
	} {
		x.shows(1, usualAt)
		data := usualData()
		c.change(&data)
		x.loads(c.name, data, done)
		x.scans(c.name, shown(1), usualAt, c.verdict)
		x.loads(c.name, usualData(), done)
	}
}

// TestLoadInAnyState is without a shift, in one, and of a spoilt device; a
// device that is opened again has no data.
func TestLoadInAnyState(t *testing.T) {
	x := fresh(t, plenty)
	x.loads("no shift", usualData(), done)
	x.begins("a shift", usualStop, usualZone, done)
	x.shows(1, usualAt)
	x.loads("a shift", api.Data{}, done)
	x.scans("a shift", shown(1), usualAt, 3)
	x.loads("a shift", usualData(), done)
	x.ends("no shift", done)
	x.begins("another shift", usualStop, usualZone, done)
	x.shows(1, usualAt)
	x.tears(1, 3)
	x.refusesScan("cut off", shown(1), usualAt, api.ErrState)
	x.loads("spoilt", usualData(), done)
	x.loads("spoilt", api.Data{Keys: wrongKeys()["Id 0"]}, api.ErrArg)
	x.opensAgain("no data")
	x.begins("no data", usualStop, usualZone, done)
	x.scans("no data", shown(1), usualAt, 3)
}

// TestLoadKeepsNothingThatIsHandedIn changes it behind the call, bit by bit.
func TestLoadKeepsNothingThatIsHandedIn(t *testing.T) {
	t.Parallel()
	onExtra := issue(api.Ticket{Serial: 7, Product: 4, Zones: 3, From: 1440 * 4, Key: 1}, 5)
	onExcept := issue(api.Ticket{Serial: 7, Product: 5, Zones: 3, From: 1440 * 5, Key: 1}, 5)
	given := usualData()
	given.Products = append(given.Products,
		api.Product{Id: 4, Minutes: 1440, Service: api.Service{To: 0, Extra: []int{4, 9}}},
		api.Product{Id: 5, Minutes: 1440, Service: api.Service{Week: 127, To: 10, Except: []int{2, 5}}},
	)
	for name, change := range map[string]func(x *api.Data){
		"nothing":     func(x *api.Data) {},
		"a key":       func(x *api.Data) { x.Keys[0] = api.Key{} },
		"a key's Q":   func(x *api.Data) { x.Keys[0].Q.X[0] ^= 1 },
		"a serial":    func(x *api.Data) { x.Revoked[0].Serial = 7 },
		"its From":    func(x *api.Data) { x.Revoked[0].From = maxMinute },
		"a product":   func(x *api.Data) { x.Products[0] = api.Product{} },
		"its Minutes": func(x *api.Data) { x.Products[0].Minutes = 1 },
		"its Extra":   func(x *api.Data) { x.Products[1].Service.Extra[0] = 8 },
		"its Except":  func(x *api.Data) { x.Products[2].Service.Except[1] = 4 },
		"what is behind": func(x *api.Data) {
			_, _, _ = append(x.Keys, api.Key{}), append(x.Revoked, api.Revoked{}), append(x.Products, api.Product{})
		},
		"all of it": func(x *api.Data) { clear(x.Keys); clear(x.Revoked); clear(x.Products) },
	} {
		x, data := working(t, plenty), clone(given)
		x.loads(name, data, done)
		if !sameData(data, given) {
			t.Error(name, "what was handed in is changed")
		}
		change(&data)
		x.showsAll()
		x.scans(name, onExtra, 1440*4, 1)
		x.scans(name, onExcept, 1440*5, 6)
	}
}

func sameData(a, b api.Data) bool {
	return slices.Equal(a.Keys, b.Keys) && slices.Equal(a.Revoked, b.Revoked) &&
		slices.EqualFunc(a.Products, b.Products, func(p, q api.Product) bool {
			return p.Id == q.Id && p.Minutes == q.Minutes && p.Service.Week == q.Service.Week &&
				p.Service.From == q.Service.From && p.Service.To == q.Service.To &&
				slices.Equal(p.Service.Extra, q.Service.Extra) && slices.Equal(p.Service.Except, q.Service.Except)
		})
}

// P18.2: Begin and End

func TestEachStopAndZoneAboutItsEnds(t *testing.T) {
	rightStops, rightZones := []int{0, 1, 16, 30, 31}, []int{0, 1, 6, 7}
	wrongStops := []int{-1, -2, 32, 33, -32, math.MinInt, math.MinInt + 1, math.MaxInt, 1 << 32, 1<<32 + 5, 256}
	wrongZones := []int{-1, -2, 8, 9, -8, math.MinInt, math.MinInt + 1, math.MaxInt, 1 << 32, 1<<32 + 1, 256}
	x := fresh(t, 200000)
	refuses := func(isOn bool, stop, zone int) {
		t.Helper()
		x.begins([]int{stop, zone}, stop, zone, api.ErrArg)
		if !isOn {
			x.refusesScan("no shift", nil, 0, api.ErrState)
			x.ends("no shift", api.ErrState)
		}
	}
	for _, stop := range rightStops {
		for _, zone := range rightZones {
			for _, isOn := range []bool{false, true} {
				if isOn {
					x.begins([]int{stop, zone}, stop, zone, done)
				}
				for _, wrong := range wrongStops {
					refuses(isOn, wrong, zone)
					refuses(isOn, wrong, 8)
				}
				for _, wrong := range wrongZones {
					refuses(isOn, stop, wrong)
					refuses(isOn, -1, wrong)
				}
			}
			// No refused one moved the shift.
			many := len(x.device.Records())
			x.scans("in it", nil, 0, 2)
			want := api.Record{Device: usualId, Seq: many, Kind: 1, Stop: stop, Zone: zone, Verdict: 2}
			if many > 0 {
				want.Prev = x.link(many - 1)
			}
			x.isLast("in it", many+1, want)
			x.ends("in it", done)
		}
	}
}

// TestBeginInAShift is without an End: the new place counts.
func TestBeginInAShift(t *testing.T) {
	x := fresh(t, plenty)
	x.begins("first", 1, 2, done)
	x.begins("second", 3, 4, done)
	x.scans("second", []byte("x"), 10, 2)
	x.begins("third", 5, 6, done)
	x.notices("third", 11, done)
	x.begins("fourth", 7, 0, done)
	x.voids("fourth", 1, 12, done)
	for seq, place := range [][2]int{{3, 4}, {5, 6}, {7, 0}} {
		if r := x.paper.all[seq].r; r.Stop != place[0] || r.Zone != place[1] {
			t.Error(seq, r)
		}
	}
	x.isLast("fourth", 3, api.Record{Device: usualId, Seq: 2, At: 12, Kind: 3, Stop: 7, Serial: 1, Prev: x.link(1)})
	x.ends("once", done)
	x.ends("twice", api.ErrState)
}

func TestEnd(t *testing.T) {
	x := fresh(t, plenty)
	x.ends("none", api.ErrState)
	x.ends("none, twice", api.ErrState)
	for range 3 {
		x.begins("a shift", 0, 0, done)
		x.scans("a shift", []byte("x"), 10, 2)
		x.ends("a shift", done)
		x.refusesScan("none", []byte("x"), 10, api.ErrState)
		x.notices("none", 10, api.ErrState)
		x.voids("none", 0, 10, api.ErrState)
		x.ends("twice", api.ErrState)
		x.opensAgain("none")
		x.ends("opened again", api.ErrState)
	}
	x.begins("a shift", 0, 0, done)
	x.opensAgain("the shift is over")
	x.ends("the shift is over", api.ErrState)
	x.refusesScan("the shift is over", []byte("x"), 10, api.ErrState)
}
