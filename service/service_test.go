package service

import (
	"maps"
	"math"
	"math/rand/v2"
	"slices"
	"strconv"
	"testing"

	"clapper/api"
)

const (
	allWeek   = 127
	maxDays   = 100
	greatDay  = 1048576
	maxMinute = 1073741824
)

// otherDays goes by the chapter's words, one by one.
func otherDays(l []int) bool {
	for i, day := range l {
		if i == maxDays || day < 0 || day > greatDay {
			return false
		}
		for _, before := range l[:i] {
			if before >= day {
				return false
			}
		}
	}
	return true
}

// otherMay goes by the chapter's words, one by one.
func otherMay(s api.Service) bool {
	for _, day := range s.Extra {
		if slices.Contains(s.Except, day) {
			return false
		}
	}
	return 0 <= s.Week && s.Week <= allWeek && 0 <= s.From && s.From <= greatDay &&
		s.From <= s.To && s.To <= greatDay && otherDays(s.Extra) && otherDays(s.Except)
}

// otherIsOn is of a service that may be.
func otherIsOn(s api.Service, day int) bool {
	if slices.Contains(s.Extra, day) {
		return true
	}
	if slices.Contains(s.Except, day) || day < s.From || !(day < s.To) {
		return false
	}
	weekdays := []int{1, 2, 4, 8, 16, 32, 64}
	return s.Week&weekdays[day%7] != 0
}

func otherRuns(s api.Service, day int) bool { return otherMay(s) && otherIsOn(s, day) }

// otherNext goes day by day.
func otherNext(s api.Service, day int) (int, bool) {
	if day < 0 || !otherMay(s) {
		return 0, false
	}
	for ; day <= greatDay; day++ {
		if otherIsOn(s, day) {
			return day, true
		}
	}
	return 0, false
}

// daily runs on each day from one to ahead of another.
func daily(from, to int) api.Service { return api.Service{Week: allWeek, From: from, To: to} }

func withExtra(s api.Service, days ...int) api.Service {
	s.Extra = days
	return s
}

func withExcept(s api.Service, days ...int) api.Service {
	s.Except = days
	return s
}

// many are so many days, from one on, so far from each other.
func many(first, n, step int) []int {
	var l []int
	for i := range n {
		l = append(l, first+i*step)
	}
	return l
}

// with is a copy of days with another one at a place.
func with(l []int, at, day int) []int {
	l = slices.Clone(l)
	l[at] = day
	return l
}

// chosen are n days that rise, each once, below another one.
func chosen(r *rand.Rand, n, below int) []int {
	days := map[int]int{}
	for len(days) < n {
		days[r.IntN(below)]++
	}
	return slices.Sorted(maps.Keys(days))
}

// chosenService may be, and has days below another one, near each other if
// that one is small.
func chosenService(r *rand.Rand, below int) api.Service {
	days := chosen(r, 2+r.IntN(min(below/2, 150)), below)
	s := api.Service{Week: r.IntN(128), From: r.IntN(below)}
	s.To = s.From + r.IntN(below-s.From)
	for _, day := range days {
		switch {
		case r.IntN(3) == 0:
		case r.IntN(2) == 0 && len(s.Extra) < maxDays:
			s.Extra = append(s.Extra, day)
		case len(s.Except) < maxDays:
			s.Except = append(s.Except, day)
		}
	}
	return s
}

// rightDays may be a service's extra, or excepted, ones.
func rightDays() map[string][]int {
	return map[string][]int{
		"nil":            nil,
		"empty":          {},
		"day 0":          {0},
		"day 1":          {1},
		"the last":       {greatDay},
		"below it":       {greatDay - 1},
		"both ends":      {0, greatDay},
		"next to":        {3, 4, 5},
		"MaxDays":        many(0, maxDays, 1),
		"one fewer":      many(0, maxDays-1, 1),
		"up to the last": many(greatDay-maxDays+1, maxDays, 1),
		"far apart":      many(0, maxDays, 10000),
	}
}

// wrongDays may not be.
func wrongDays() map[string][]int {
	return map[string][]int{
		"day -1":            {-1},
		"a low day":         {math.MinInt},
		"above the last":    {greatDay + 1},
		"a great day":       {math.MaxInt},
		"2^32 more":         {1<<32 + 7},
		"-1 at the head":    {-1, 0, 1},
		"-1 in the middle":  {0, -1, 1},
		"-1 at the end":     {0, 1, -1},
		"too great, head":   {greatDay + 1, 3, 4},
		"too great, middle": {3, greatDay + 1, greatDay},
		"too great, end":    {3, greatDay, greatDay + 1},
		"twice":             {5, 5},
		"twice, 0":          {0, 0},
		"twice, the last":   {greatDay, greatDay},
		"twice, head":       {5, 5, 6, 7},
		"twice, middle":     {4, 5, 5, 6},
		"twice, end":        {3, 4, 5, 5},
		"twice, apart":      {5, 6, 5},
		"falls":             {6, 5},
		"falls, head":       {4, 3, 5, 6},
		"falls, middle":     {3, 5, 4, 6},
		"falls, end":        {3, 4, 6, 5},
		"falls throughout":  {9, 7, 5, 3, 1},
		"one more":          many(0, maxDays+1, 1),
		"twice as many":     many(0, 2*maxDays, 1),
		"a great many":      many(0, 5000, 1),
		"zero ones":         make([]int, 3),
		"many zero ones":    make([]int, maxDays+1),
	}
}

// rightServices may be.
func rightServices() map[string]api.Service {
	told := map[string]api.Service{
		"zero":              {},
		"the example":       {Week: 2, To: 14},
		"Week 1":            {Week: 1, To: 14},
		"Week 64":           {Week: 64, To: 14},
		"Week 127":          daily(0, 14),
		"From 1":            daily(1, 14),
		"From To":           daily(14, 14),
		"From and To last":  daily(greatDay, greatDay),
		"From below To":     daily(13, 14),
		"From 0 to last":    daily(0, greatDay),
		"To below last":     daily(5, greatDay-1),
		"both, apart":       {Week: 5, To: 9, Extra: []int{1, 3, 5}, Except: []int{0, 2, 4, 6}},
		"both, MaxDays":     {Week: 5, To: 9, Extra: many(0, maxDays, 2), Except: many(1, maxDays, 2)},
		"all one's, then":   {Extra: many(0, maxDays, 1), Except: many(maxDays, maxDays, 1)},
		"and the other way": {Extra: many(maxDays, maxDays, 1), Except: many(0, maxDays, 1)},
	}
	for name, days := range rightDays() {
		told[name+", extra"] = withExtra(daily(0, 50), days...)
		told[name+", excepted"] = withExcept(daily(0, 50), days...)
		told[name+", extra, no week"] = withExtra(api.Service{}, days...)
	}
	return told
}

// wrongServices may not be, though days of theirs look as if they ran.
func wrongServices() map[string]api.Service {
	told := map[string]api.Service{
		"Week -1":           {Week: -1, To: 14},
		"Week -128":         {Week: -128, To: 14},
		"a low Week":        {Week: math.MinInt, To: 14},
		"Week 128":          {Week: 128, To: 14},
		"Week 129":          {Week: 129, To: 14},
		"Week 255":          {Week: 255, To: 14},
		"a great Week":      {Week: math.MaxInt, To: 14},
		"Week 2^32":         {Week: 1<<32 + allWeek, To: 14},
		"From -1":           daily(-1, 14),
		"From -7, To -1":    daily(-7, -1),
		"a low From":        daily(math.MinInt, 14),
		"From above all":    daily(greatDay+1, greatDay+1),
		"From and To above": daily(greatDay+1, greatDay+8),
		"a great From":      daily(math.MaxInt, math.MaxInt),
		"To below From":     withExtra(daily(14, 13), 14),
		"To 0":              withExtra(daily(14, 0), 3),
		"To -1":             withExtra(daily(0, -1), 3),
		"a low To":          withExtra(daily(0, math.MinInt), 3),
		"To above all":      daily(0, greatDay+1),
		"a great To":        daily(0, math.MaxInt),
		"in both":           {Week: 127, To: 14, Extra: []int{5}, Except: []int{5}},
		"in both, first":    {Week: 127, To: 14, Extra: []int{5, 7}, Except: []int{5, 9}},
		"in both, last":     {Week: 127, To: 14, Extra: []int{5, 9}, Except: []int{7, 9}},
		"in both, unlike":   {Week: 127, To: 14, Extra: []int{5, 9}, Except: []int{9, 11}},
		"in both, day 0":    {Week: 127, To: 14, Extra: []int{0}, Except: []int{0}},
		"in both, last day": {Week: 127, To: 14, Extra: []int{greatDay}, Except: []int{greatDay}},
		"the same days":     {Week: 127, To: 14, Extra: many(0, 9, 1), Except: many(0, 9, 1)},
	}
	for name, days := range wrongDays() {
		told[name+", extra"] = withExtra(daily(0, 14), days...)
		told[name+", excepted"] = withExcept(daily(0, 14), days...)
		told[name+", extra, others excepted"] = withExcept(withExtra(daily(0, 14), days...), 13, 21)
		told[name+", excepted, others extra"] = withExcept(withExtra(daily(0, 14), 13, 21), days...)
	}
	return told
}

// extremes are numbers at the ends of what an int, and a day, may be.
func extremes() []int {
	return []int{
		math.MinInt, math.MinInt + 1, -1 << 32, -8, -7, -1, 0, 1, 6, 7, 8, 127, 128, 1439, 1440,
		greatDay - 1, greatDay, greatDay + 1, maxMinute, 1 << 32, math.MaxInt - 7, math.MaxInt - 1, math.MaxInt,
	}
}

// runsOnJust holds the days from one to another against those on which it should run.
func runsOnJust(t *testing.T, name string, s api.Service, from, to int, days ...int) {
	t.Helper()
	for day := from; day <= to; day++ {
		if Runs(s, day) != slices.Contains(days, day) {
			t.Error(name, "day", day)
		}
	}
}

func isNext(t *testing.T, name string, s api.Service, day, want int) {
	t.Helper()
	if next, ok := Next(s, day); next != want || !ok {
		t.Error(name, "from", day, "on:", next, ok, "for", want)
	}
}

func hasNoNext(t *testing.T, name string, s api.Service, days ...int) {
	t.Helper()
	for _, day := range days {
		if next, ok := Next(s, day); next != 0 || ok {
			t.Error(name, "from", day, "on:", next, ok)
		}
	}
}

// P12.1: May

func TestServicesThatMayBe(t *testing.T) {
	for name, s := range rightServices() {
		if !May(s) || !otherMay(s) {
			t.Error(name)
		}
	}
}

func TestServicesThatMayNotBe(t *testing.T) {
	for name, s := range wrongServices() {
		if May(s) || otherMay(s) {
			t.Error(name)
		}
	}
}

func TestEachWeek(t *testing.T) {
	for week := -300; week <= 600; week++ {
		if May(api.Service{Week: week, To: 14}) != (week >= 0 && week <= 127) {
			t.Error(week)
		}
	}
	for _, week := range []int{-1, 128} {
		if May(api.Service{Week: week}) {
			t.Error(week)
		}
	}
	for _, week := range []int{0, 1, 64, 127} {
		if !May(api.Service{Week: week}) {
			t.Error(week)
		}
	}
}

func TestEachFrom(t *testing.T) {
	for _, from := range []int{0, 1, 1048575, 1048576} {
		if !May(daily(from, 1048576)) || !May(daily(from, from)) {
			t.Error(from)
		}
	}
	for _, from := range []int{math.MinInt, -1440, -1, 1048577, math.MaxInt} {
		if May(daily(from, 1048576)) || May(daily(from, from)) || May(daily(from, math.MaxInt)) {
			t.Error(from)
		}
	}
}

func TestEachTo(t *testing.T) {
	for _, from := range []int{0, 1, 7, 1000, 1048575, 1048576} {
		for _, to := range []int{math.MinInt, -1, 0, from - 7, from - 1, from, from + 1, 1048575, 1048576, 1048577, 1048583, math.MaxInt} {
			if May(daily(from, to)) != (to >= from && to <= 1048576) {
				t.Error(from, to)
			}
		}
	}
}

func TestDaysThatMayBe(t *testing.T) {
	for name, days := range rightDays() {
		for _, s := range []api.Service{{}, daily(0, 14), daily(7, greatDay)} {
			if !May(withExtra(s, days...)) || !May(withExcept(s, days...)) {
				t.Error(name, s)
			}
		}
	}
}

func TestDaysThatMayNotBe(t *testing.T) {
	for name, days := range wrongDays() {
		for _, s := range []api.Service{{}, daily(0, 14), daily(7, greatDay)} {
			if May(withExtra(s, days...)) || May(withExcept(s, days...)) {
				t.Error(name, s)
			}
		}
	}
}

func TestHowManyDaysMayBe(t *testing.T) {
	for n := range 2*maxDays + 2 {
		for _, first := range []int{0, 5000, greatDay - n + 1} {
			days := many(first, n, 1)
			if May(withExtra(daily(0, 14), days...)) != (n <= 100) {
				t.Error("extra", first, n)
			}
			if May(withExcept(daily(0, 14), days...)) != (n <= 100) {
				t.Error("excepted", first, n)
			}
		}
		// So many of each are so many of one, and not of both together.
		both := api.Service{Extra: many(0, n, 2), Except: many(1, n, 2)}
		if May(both) != (n <= 100) {
			t.Error("both", n)
		}
	}
}

func TestAWrongDayAtEachPlace(t *testing.T) {
	for _, n := range []int{1, 2, 3, maxDays} {
		days := many(10, n, 3)
		for at := range days {
			for _, wrong := range []int{math.MinInt, -1, greatDay + 1, math.MaxInt} {
				l := with(days, at, wrong)
				if May(withExtra(daily(0, 14), l...)) || May(withExcept(daily(0, 14), l...)) {
					t.Error(n, at, wrong)
				}
			}
		}
	}
}

func TestDaysTwiceOrFallingAtEachPlace(t *testing.T) {
	for _, n := range []int{2, 3, 4, 50, maxDays} {
		days := many(10, n, 3)
		for at := range n - 1 {
			twice, falls := with(days, at, days[at+1]), with(with(days, at, days[at+1]), at+1, days[at])
			for _, l := range [][]int{twice, falls} {
				if May(withExtra(daily(0, 14), l...)) || May(withExcept(daily(0, 14), l...)) {
					t.Error(n, at, l)
				}
			}
		}
	}
}

// daysAround are a day, so many days ahead of it, and so many behind it, one in
// each two days; those of shift 0 have none but the day in common with those of 1.
func daysAround(day, ahead, behind, shift int) []int {
	l := many(day-2*ahead+shift, ahead, 2)
	l = append(l, day)
	return append(l, many(day+2-shift, behind, 2)...)
}

func TestADayInBothAtEachPlace(t *testing.T) {
	const n, shared = maxDays, 1000
	places := []int{0, 1, 2, 49, 50, 97, 98, 99}
	for _, at := range places {
		for _, other := range places {
			s := api.Service{
				Week: allWeek, To: 14,
				Extra:  daysAround(shared, at, n-1-at, 0),
				Except: daysAround(shared, other, n-1-other, 1),
			}
			if s.Extra[at] != shared || s.Except[other] != shared || May(s) {
				t.Error("shared", at, other)
			}
			if !May(withExtra(s, slices.Delete(slices.Clone(s.Extra), at, at+1)...)) {
				t.Error("no longer extra", at, other)
			}
			if !May(withExcept(s, slices.Delete(slices.Clone(s.Except), other, other+1)...)) {
				t.Error("no longer excepted", at, other)
			}
		}
	}
}

func TestADayInBothWhereOneListIsShort(t *testing.T) {
	for _, n := range []int{1, 2, 3, 7, maxDays} {
		days := many(0, n, 5)
		for _, day := range days {
			one := api.Service{Extra: []int{day}, Except: days}
			other := api.Service{Extra: days, Except: []int{day}}
			if May(one) || May(other) {
				t.Error(n, day)
			}
			one.Extra, other.Except = []int{day + 1}, []int{day + 1}
			if !May(one) || !May(other) {
				t.Error(n, "next to", day)
			}
		}
	}
}

func TestAllShortServices(t *testing.T) {
	days := []int{-1, 0, 1, greatDay, greatDay + 1}
	lists := [][]int{nil}
	for _, x := range days {
		lists = append(lists, []int{x})
		for _, y := range days {
			lists = append(lists, []int{x, y})
		}
	}
	for _, week := range []int{-1, 0, 127, 128} {
		for _, from := range days {
			for _, to := range days {
				for _, extra := range lists {
					for _, except := range lists {
						s := api.Service{Week: week, From: from, To: to, Extra: extra, Except: except}
						if May(s) != otherMay(s) {
							t.Fatal(s)
						}
					}
				}
			}
		}
	}
}

// P12.1: Runs

func TestTheExample(t *testing.T) {
	runsOnJust(t, "the example", api.Service{Week: 2, From: 0, To: 14}, -30, 60, 1, 8)
}

func TestAroundFromAndTo(t *testing.T) {
	for _, from := range []int{0, 1, 5, 7, 1000, greatDay - 9} {
		for _, days := range []int{1, 2, 6, 7, 8, 9} {
			to := from + days
			s := daily(from, to)
			if Runs(s, from-1) || !Runs(s, from) || !Runs(s, to-1) || Runs(s, to) || Runs(s, to+1) {
				t.Error(from, to)
			}
			runsOnJust(t, "daily", s, from-20, to+20, many(from, days, 1)...)
		}
	}
}

func TestNoDaysFromFromToTheSame(t *testing.T) {
	for _, day := range []int{0, 1, 7, 1000, greatDay} {
		runsOnJust(t, "none", daily(day, day), day-20, day+20)
	}
}

func TestDaysBelowZeroAndAboveAll(t *testing.T) {
	s := withExtra(daily(0, greatDay), greatDay)
	for day := -1; day >= -30; day-- {
		if Runs(s, day) {
			t.Error(day)
		}
	}
	for _, day := range []int{math.MinInt, math.MinInt + 1, math.MinInt + 7, -1 << 32, -greatDay, greatDay + 1, greatDay + 7, 1 << 32, math.MaxInt - 1, math.MaxInt} {
		if Runs(s, day) {
			t.Error(day)
		}
	}
	if !Runs(s, 0) || !Runs(s, greatDay-1) || !Runs(s, greatDay) || Runs(daily(0, greatDay), greatDay) {
		t.Error("the ends")
	}
}

func TestEachWeekdayWithEachBit(t *testing.T) {
	bits := []int{1, 2, 4, 8, 16, 32, 64}
	for weekday, bit := range bits {
		for _, from := range []int{0, 1, 3, 6, 7, 1000, greatDay - 100} {
			s := api.Service{Week: bit, From: from, To: from + 100}
			for day := from; day < from+100; day++ {
				if Runs(s, day) != (day%7 == weekday) {
					t.Error(bit, from, day)
				}
			}
		}
	}
}

func TestEachWeekOnEachWeekday(t *testing.T) {
	for week := range 128 {
		s := api.Service{Week: week, From: 2, To: 40}
		for day := range 50 {
			isOn := false
			for weekday, bit := range []int{1, 2, 4, 8, 16, 32, 64} {
				isOn = isOn || day%7 == weekday && week/bit%2 == 1
			}
			if Runs(s, day) != (isOn && day >= 2 && day < 40) {
				t.Error(week, day)
			}
		}
	}
}

func TestExtraDays(t *testing.T) {
	// Days 21 to 34 hold two of weekday 1: 22 and 29.
	s := api.Service{Week: 2, From: 21, To: 35}
	runsOnJust(t, "none", s, -10, 60, 22, 29)
	runsOnJust(t, "day 0", withExtra(s, 0), -10, 60, 0, 22, 29)
	runsOnJust(t, "just ahead of From", withExtra(s, 20), -10, 60, 20, 22, 29)
	runsOnJust(t, "at From", withExtra(s, 21), -10, 60, 21, 22, 29)
	runsOnJust(t, "inside", withExtra(s, 25), -10, 60, 22, 25, 29)
	runsOnJust(t, "one that runs", withExtra(s, 29), -10, 60, 22, 29)
	runsOnJust(t, "just ahead of To", withExtra(s, 34), -10, 60, 22, 29, 34)
	runsOnJust(t, "at To", withExtra(s, 35), -10, 60, 22, 29, 35)
	runsOnJust(t, "its weekday at To", withExtra(s, 36), -10, 60, 22, 29, 36)
	runsOnJust(t, "behind To", withExtra(s, 50), -10, 60, 22, 29, 50)
	runsOnJust(t, "many", withExtra(s, 3, 20, 22, 23, 35, 47), -10, 60, 3, 20, 22, 23, 29, 35, 47)
	runsOnJust(t, "no week", withExtra(api.Service{From: 21, To: 35}, 3, 25, 50), -10, 60, 3, 25, 50)
	runsOnJust(t, "no days", withExtra(daily(21, 21), 3, 21, 50), -10, 60, 3, 21, 50)
	runsOnJust(t, "the last day of all", withExtra(s, greatDay), greatDay-20, greatDay+20, greatDay)
}

func TestExceptedDays(t *testing.T) {
	s := api.Service{Week: 2, From: 21, To: 35}
	runsOnJust(t, "the first", withExcept(s, 22), -10, 60, 29)
	runsOnJust(t, "the last", withExcept(s, 29), -10, 60, 22)
	runsOnJust(t, "all", withExcept(s, 22, 29), -10, 60)
	runsOnJust(t, "others", withExcept(s, 21, 23, 28, 30), -10, 60, 22, 29)
	runsOnJust(t, "outside", withExcept(s, 1, 15, 36, 43), -10, 60, 22, 29)
	runsOnJust(t, "daily", withExcept(daily(3, 9), 3, 5, 8), -10, 60, 4, 6, 7)
	runsOnJust(t, "the ends of all", withExcept(daily(0, 3), 0, greatDay), -10, 60, 1, 2)
	both := withExtra(withExcept(s, 22), 21, 23)
	runsOnJust(t, "both", both, -10, 60, 21, 23, 29)
}

func TestEachOfManyDays(t *testing.T) {
	days := many(5, maxDays, 4)
	extra, except := withExtra(api.Service{}, days...), withExcept(daily(0, 500), days...)
	for day := -20; day < 600; day++ {
		is := slices.Contains(days, day)
		if Runs(extra, day) != is || Runs(except, day) != (!is && day >= 0 && day < 500) {
			t.Error(day)
		}
	}
}

func TestAServiceThatMayNotBeNeverRuns(t *testing.T) {
	for name, s := range wrongServices() {
		days := slices.Concat(many(-20, 80, 1), extremes(), s.Extra[:min(len(s.Extra), 5)])
		for _, day := range days {
			if Runs(s, day) {
				t.Error(name, day)
			}
		}
	}
}

func TestRunsAgainstAnotherWay(t *testing.T) {
	r := rand.New(rand.NewPCG(12, 1))
	for range 300 {
		below := []int{20, 100, 400}[r.IntN(3)]
		s := chosenService(r, below)
		for day := -9; day < below+9; day++ {
			if Runs(s, day) != otherRuns(s, day) {
				t.Fatal(s, day)
			}
		}
	}
}

// P12.1: On

func TestKnownMinutes(t *testing.T) {
	for _, known := range []struct{ minute, day, of int }{
		{0, 0, 0}, {1, 0, 1}, {719, 0, 719}, {1438, 0, 1438}, {1439, 0, 1439},
		{1440, 1, 0}, {1441, 1, 1}, {2879, 1, 1439}, {2880, 2, 0}, {10080, 7, 0},
		{1073741759, 745653, 1439}, {1073741760, 745654, 0},
		{1073741823, 745654, 63}, {1073741824, 745654, 64},
	} {
		day, of, err := On(known.minute)
		if day != known.day || of != known.of || err != nil {
			t.Error(known, day, of, err)
		}
	}
}

func TestMinutesThatArentAny(t *testing.T) {
	for _, minute := range []int{
		math.MinInt, math.MinInt + 1, -1 << 32, -maxMinute, -1441, -1440, -1439, -2, -1,
		1073741825, 1073741826, 1 << 31, 1 << 32, 1<<32 + 5, math.MaxInt - 1, math.MaxInt,
	} {
		if day, of, err := On(minute); day != 0 || of != 0 || err != error(api.ErrArg) {
			t.Error(minute, day, of, err)
		}
	}
}

func TestMinutesOneByOne(t *testing.T) {
	for _, first := range []int{0, 1, 728, 745650} {
		minute := first * 1440
		for wantDay := first; wantDay < first+5; wantDay++ {
			for wantOf := 0; wantOf < 1440 && minute <= maxMinute; wantOf++ {
				if day, of, err := On(minute); day != wantDay || of != wantOf || err != nil {
					t.Fatal(minute, day, of, err)
				}
				minute++
			}
		}
	}
}

func TestMinutesAreTheirDaysAndRests(t *testing.T) {
	r := rand.New(rand.NewPCG(12, 2))
	for range 100000 {
		minute := r.IntN(maxMinute + 1)
		day, of, err := On(minute)
		if day*1440+of != minute || of < 0 || of >= 1440 || err != nil {
			t.Fatal(minute, day, of, err)
		}
	}
}

// P12.2

func TestNextOfTheExample(t *testing.T) {
	s := api.Service{Week: 2, From: 0, To: 14}
	for day := 0; day <= 1; day++ {
		isNext(t, "the first", s, day, 1)
	}
	for day := 2; day <= 8; day++ {
		isNext(t, "the second", s, day, 8)
	}
	hasNoNext(t, "behind both", s, 9, 10, 13, 14, 15, 16, 100)
}

func TestNextAroundFrom(t *testing.T) {
	for _, from := range []int{1, 3, 7, 1000, greatDay - 50} {
		s := daily(from, from+50)
		for _, day := range []int{0, from / 2, max(from-8, 0), from - 1, from} {
			isNext(t, "up to From", s, day, from)
		}
		isNext(t, "behind From", s, from+1, from+1)
	}
	// Day 1000 is of weekday 6, day 1002 the next one of weekday 1.
	weekly := api.Service{Week: 2, From: 1000, To: 1030}
	for _, day := range []int{0, 1, 2, 500, 995, 999, 1000, 1001, 1002} {
		isNext(t, "weekly", weekly, day, 1002)
	}
	isNext(t, "the day behind", weekly, 1003, 1009)
}

func TestNextAroundTo(t *testing.T) {
	for _, to := range []int{8, 15, 1000, greatDay - 1, greatDay} {
		s := daily(3, to)
		isNext(t, "just below To", s, to-2, to-2)
		isNext(t, "just below To", s, to-1, to-1)
		hasNoNext(t, "from To on", s, to, to+1, to+7, to+1000, math.MaxInt)
	}
	// Day 15 is of weekday 1.
	hasNoNext(t, "at To", api.Service{Week: 2, From: 9, To: 15}, 0, 8, 9, 14, 15)
	isNext(t, "ahead of To", api.Service{Week: 2, From: 9, To: 16}, 9, 15)
}

func TestNextFromDaysOnWhichItRuns(t *testing.T) {
	for _, s := range rightServices() {
		for _, day := range slices.Concat(many(0, 300, 1), many(greatDay-120, 121, 1)) {
			if Runs(s, day) {
				isNext(t, "itself", s, day, day)
			}
		}
	}
}

func TestNextFromDaysThatArentAny(t *testing.T) {
	for name, s := range rightServices() {
		hasNoNext(t, name, s, -1, -2, -6, -7, -8, -1440, -greatDay, -1<<32, math.MinInt+1, math.MinInt)
		hasNoNext(t, name, s, greatDay+1, greatDay+2, greatDay+7, 1<<32, math.MaxInt-7, math.MaxInt-1, math.MaxInt)
	}
}

func TestNextAtTheLastDayOfAll(t *testing.T) {
	s := daily(0, greatDay)
	isNext(t, "the last but one", s, greatDay-1, greatDay-1)
	hasNoNext(t, "the last", s, greatDay)
	s = withExtra(s, greatDay)
	isNext(t, "the last, extra", s, greatDay, greatDay)
	hasNoNext(t, "above it", s, greatDay+1)
	isNext(t, "the last, from 0 on", withExtra(api.Service{}, greatDay), 0, greatDay)
}

func TestNextOfAllExcepted(t *testing.T) {
	all := withExcept(daily(10, 110), many(10, 100, 1)...)
	hasNoNext(t, "each day", all, 0, 9, 10, 11, 60, 109, 110, 111)
	weekly := withExcept(api.Service{Week: 2, To: 700}, many(1, 100, 7)...)
	hasNoNext(t, "each week", weekly, 0, 1, 2, 350, 694, 699, 700)
	last := withExcept(daily(10, 20), many(15, 5, 1)...)
	isNext(t, "ahead of the excepted", last, 14, 14)
	hasNoNext(t, "all ahead", last, 15, 16, 19, 20)
}

func TestNextBehindManyExcepted(t *testing.T) {
	for n := range maxDays + 1 {
		isNext(t, "daily", withExcept(daily(10, 300), many(10, n, 1)...), 0, 10+n)
		weekly := withExcept(api.Service{Week: 2, To: 900}, many(1, n, 7)...)
		isNext(t, "weekly", weekly, 0, 1+7*n)
	}
}

func TestNextOfNoneLeftButExtra(t *testing.T) {
	excepted := withExcept(api.Service{Week: 2, To: 21}, 1, 8, 15)
	inside := withExtra(excepted, 16)
	for _, day := range []int{0, 1, 8, 15, 16} {
		isNext(t, "inside", inside, day, 16)
	}
	hasNoNext(t, "inside", inside, 17, 20, 21, 100)
	behind := withExtra(excepted, 1000)
	for _, day := range []int{0, 1, 15, 20, 21, 22, 999, 1000} {
		isNext(t, "behind To", behind, day, 1000)
	}
	hasNoNext(t, "behind To", behind, 1001)
	at := withExtra(daily(3, 9), 9)
	isNext(t, "at To", at, 8, 8)
	isNext(t, "at To", at, 9, 9)
	hasNoNext(t, "at To", at, 10)
}

func TestNextOfExtraDays(t *testing.T) {
	s := withExtra(api.Service{Week: 2, From: 21, To: 35}, 3, 20, 24, 34, 35, 50)
	want := map[int]int{
		0: 3, 3: 3, 4: 20, 20: 20, 21: 22, 22: 22, 23: 24, 24: 24, 25: 29,
		29: 29, 30: 34, 34: 34, 35: 35, 36: 50, 49: 50, 50: 50,
	}
	for day, next := range want {
		isNext(t, "extra", s, day, next)
	}
	hasNoNext(t, "extra", s, 51, 100)
	ahead := withExtra(daily(500, 600), 7)
	isNext(t, "ahead of From", ahead, 0, 7)
	isNext(t, "ahead of From", ahead, 8, 500)
}

func TestNextOfEachOfManyExtraDays(t *testing.T) {
	days := many(2, maxDays, 4)
	s := withExtra(api.Service{}, days...)
	for _, day := range days {
		for back := range 4 {
			isNext(t, "many", s, max(day-back, 0), day)
		}
	}
	hasNoNext(t, "many", s, days[maxDays-1]+1)
}

func TestNextOfWeekZero(t *testing.T) {
	s := api.Service{From: 0, To: greatDay}
	hasNoNext(t, "no week", s, 0, 1, 7, 1000, greatDay-1, greatDay)
	isNext(t, "no week, extra", withExtra(s, 777), 0, 777)
	hasNoNext(t, "no week, extra", withExtra(s, 777), 778)
	hasNoNext(t, "no week, excepted", withExcept(s, 5), 0, 5, 6)
}

func TestNextOfFromTheSameAsTo(t *testing.T) {
	for _, day := range []int{0, 1, 7, 1000, greatDay} {
		s := daily(day, day)
		hasNoNext(t, "no days", s, 0, max(day-1, 0), day, day+1)
		isNext(t, "no days, extra", withExtra(s, day), 0, day)
	}
}

func TestNextMoreThanAYearAway(t *testing.T) {
	weekly := withExcept(api.Service{Week: 64, To: greatDay}, many(6, 100, 7)...)
	isNext(t, "behind excepted", weekly, 0, 706)
	isNext(t, "behind excepted", weekly, 6, 706)
	isNext(t, "ahead of From", daily(5000, 6000), 0, 5000)
	isNext(t, "far ahead of From", daily(greatDay-1, greatDay), 0, greatDay-1)
	isNext(t, "extra", withExtra(daily(0, 10), 9, 4000), 10, 4000)
	isNext(t, "extra, last of all", withExtra(daily(0, 10), greatDay), 10, greatDay)
	gap := withExtra(withExcept(daily(100, 200), many(100, 100, 1)...), 50, 900000)
	isNext(t, "all between excepted", gap, 51, 900000)
}

func TestNextOfAServiceThatMayNotBe(t *testing.T) {
	for name, s := range wrongServices() {
		hasNoNext(t, name, s, many(0, 50, 1)...)
		hasNoNext(t, name, s, extremes()...)
	}
}

func TestNextAgainstGoingDayByDay(t *testing.T) {
	r := rand.New(rand.NewPCG(12, 3))
	for range 200 {
		below := []int{20, 100, 400, 1500}[r.IntN(4)]
		s := chosenService(r, below)
		want, found := 0, false
		for day := below + 3; day >= 0; day-- {
			if Runs(s, day) {
				want, found = day, true
			}
			if next, ok := Next(s, day); next != want || ok != found {
				t.Fatal(s, day, next, ok)
			}
		}
	}
}

func TestNextAgainstGoingDayByDayToTheLast(t *testing.T) {
	for name, s := range rightServices() {
		for _, day := range []int{0, 1, 13, 14, 50, 300, greatDay - 100, greatDay} {
			next, ok := Next(s, day)
			if want, found := otherNext(s, day); next != want || ok != found {
				t.Error(name, day, next, ok, "for", want, found)
			}
		}
	}
}

// P12.3

func callAll(s api.Service) {
	May(s)
	for _, day := range []int{-1, 0, 1, 20, 21, 60, 500, greatDay, greatDay + 1} {
		Runs(s, day)
		Next(s, day)
	}
}

// handed is a list's copy with more behind it that an append would write over,
// and that copy as it is handed in.
func handed(l []int) (whole, list []int) {
	whole = append(slices.Clone(l), 7, -1, greatDay, 3)
	return whole, whole[:len(l)]
}

func TestServicesThatAreHandedInStay(t *testing.T) {
	all := rightServices()
	for name, s := range wrongServices() {
		all["wrong, "+name] = s
	}
	for name, s := range all {
		extra, first := handed(s.Extra)
		except, second := handed(s.Except)
		wasExtra, wasExcept := slices.Clone(extra), slices.Clone(except)
		callAll(api.Service{Week: s.Week, From: s.From, To: s.To, Extra: first, Except: second})
		if !slices.Equal(extra, wasExtra) || !slices.Equal(except, wasExcept) {
			t.Error(name)
		}
	}
}

func TestListsOfOneMemoryStay(t *testing.T) {
	whole := many(0, 2*maxDays, 3)
	was := slices.Clone(whole)
	for at := range maxDays + 1 {
		s := api.Service{Week: 5, To: 900, Extra: whole[:at], Except: whole[at : at+maxDays]}
		if !May(s) {
			t.Error(at)
		}
		callAll(s)
		if !slices.Equal(whole, was) {
			t.Fatal(at)
		}
	}
}

func TestNothingIsKept(t *testing.T) {
	extra, except := []int{5, 20}, []int{8}
	s := api.Service{Week: 2, To: 14, Extra: extra, Except: except}
	runsOnJust(t, "as it was", s, -5, 40, 1, 5, 20)
	extra[1], except[0] = 30, 1
	runsOnJust(t, "as it is now", s, -5, 40, 5, 8, 30)
	isNext(t, "as it is now", s, 9, 30)
	extra[0] = 1
	runsOnJust(t, "in both now", s, -5, 40)
	hasNoNext(t, "in both now", s, 0, 9)
	extra[0] = 5
	runsOnJust(t, "back again", s, -5, 40, 5, 8, 30)
	isNext(t, "back again", s, 0, 5)
}

// P12.4

func TestItRunsOnTheNextDayAndOnNoneAhead(t *testing.T) {
	r := rand.New(rand.NewPCG(12, 4))
	for range 400 {
		below := []int{30, 300, 3000}[r.IntN(3)]
		s := chosenService(r, below)
		day := r.IntN(below)
		next, ok := Next(s, day)
		if ok && (next < day || !Runs(s, next)) {
			t.Fatal(s, day, next)
		}
		if !ok {
			next = below + 10
		}
		for ahead := day; ahead < next; ahead++ {
			if Runs(s, ahead) {
				t.Fatal(s, day, next, ahead)
			}
		}
	}
}

func TestGoingByNextMeetsEachDay(t *testing.T) {
	for name, s := range rightServices() {
		var met []int
		for day, ok := Next(s, 0); ok && day < 300; day, ok = Next(s, day+1) {
			met = append(met, day)
		}
		runsOnJust(t, name, s, 0, 299, met...)
	}
}

func TestAWeekLaterItIsTheSame(t *testing.T) {
	for week := range 128 {
		for _, from := range []int{0, 1, 5, 700, greatDay - 60} {
			s := api.Service{Week: week, From: from, To: from + 60}
			for day := from; day+7 < from+60; day++ {
				if Runs(s, day) != Runs(s, day+7) {
					t.Fatal(week, from, day)
				}
			}
			if next, ok := Next(s, from); ok {
				isNext(t, strconv.Itoa(week), s, from+7, next+7)
			}
		}
	}
}

func TestAWeekLaterItIsNotTheSameBeyondTheEnds(t *testing.T) {
	s := daily(21, 35)
	if Runs(s, 14) || !Runs(s, 21) || !Runs(s, 34) || Runs(s, 41) || !Runs(s, 28) || Runs(s, 35) {
		t.Error("the ends")
	}
	if s = withExtra(daily(21, 21), 22); !Runs(s, 22) || Runs(s, 29) {
		t.Error("extra")
	}
	if s = withExcept(daily(21, 35), 22); Runs(s, 22) || !Runs(s, 29) {
		t.Error("excepted")
	}
}

// P1

func TestEveryCallEnds(t *testing.T) {
	lists := [][]int{nil, {}, {0, greatDay}, extremes(), many(0, 2000000, 1), make([]int, 1000)}
	for _, week := range []int{math.MinInt, -1, 0, allWeek, 128, math.MaxInt} {
		for _, from := range []int{math.MinInt, -1, 0, greatDay, math.MaxInt} {
			for _, to := range []int{math.MinInt, 0, greatDay, greatDay + 1, math.MaxInt} {
				for _, extra := range lists {
					for _, except := range lists {
						s := api.Service{Week: week, From: from, To: to, Extra: extra, Except: except}
						for _, day := range extremes() {
							next, ok := Next(s, day)
							if Runs(s, day) && (next != day || !ok) || ok && !May(s) || !ok && next != 0 {
								t.Fatal(week, from, to, day, next, ok)
							}
						}
					}
				}
			}
		}
	}
	for _, minute := range extremes() {
		On(minute)
	}
}
