package revoke

import (
	"bytes"
	"encoding/binary"
	"encoding/hex"
	"math"
	"math/rand/v2"
	"slices"
	"strings"
	"testing"

	"clapper/api"
)

const (
	maxRevoked = 200
	maxSerial  = 2147483647
	maxMinute  = 1073741824
	headSize   = 3  // ahead of a field's bytes
	oneSize    = 16 // a Serial's bytes and a From's
)

func unhex(text string) []byte {
	b, err := hex.DecodeString(strings.Join(strings.Fields(text), ""))
	if err != nil {
		panic(err)
	}
	return b
}

// otherMay goes by the chapter's words, one by one.
func otherMay(l []api.Revoked) bool {
	for i, r := range l {
		if r.Serial < 1 || r.Serial > maxSerial || r.From < 0 || r.From > maxMinute {
			return false
		}
		for _, before := range l[:i] {
			if before.Serial >= r.Serial {
				return false
			}
		}
		if i == maxRevoked {
			return false
		}
	}
	return true
}

func otherIs(l []api.Revoked, serial, at int) bool {
	if !otherMay(l) {
		return false
	}
	for _, r := range l {
		if r.Serial == serial && !(at < r.From) {
			return true
		}
	}
	return false
}

// otherMerge is of lists that may be, however many serials they have together.
func otherMerge(a, b []api.Revoked) []api.Revoked {
	from := map[int]int{}
	for _, l := range [][]api.Revoked{a, b} {
		for _, r := range l {
			if was, ok := from[r.Serial]; !ok || r.From < was {
				from[r.Serial] = r.From
			}
		}
	}
	var l []api.Revoked
	for serial, at := range from {
		l = append(l, api.Revoked{Serial: serial, From: at})
	}
	slices.SortFunc(l, func(x, y api.Revoked) int { return x.Serial - y.Serial })
	return l
}

// laid is a field's bytes.
func laid(tag int, b []byte) []byte {
	return append(binary.BigEndian.AppendUint16([]byte{byte(tag)}, uint16(len(b))), b...)
}

// numbers are the bytes of numbers, eight each.
func numbers(l ...uint64) []byte {
	var b []byte
	for _, n := range l {
		b = binary.BigEndian.AppendUint64(b, n)
	}
	return b
}

// inner are the bytes within the field, of lists that may be or not.
func inner(l []api.Revoked) []byte {
	var b []byte
	for _, r := range l {
		b = append(b, numbers(uint64(r.Serial), uint64(r.From))...)
	}
	return b
}

func otherBytes(l []api.Revoked) []byte { return laid(1, inner(l)) }

// otherParse takes what stands where it stands in a list's bytes, and asks
// whether all else is as it is of a list.
func otherParse(b []byte) ([]api.Revoked, bool) {
	var l []api.Revoked
	for at := headSize; at+oneSize <= len(b); at += oneSize {
		l = append(l, api.Revoked{
			Serial: int(binary.BigEndian.Uint64(b[at:])),
			From:   int(binary.BigEndian.Uint64(b[at+8:])),
		})
	}
	if !otherMay(l) || !bytes.Equal(otherBytes(l), b) {
		return nil, false
	}
	return l, true
}

// from has serials that are revoked from one minute on.
func from(minute int, serials ...int) []api.Revoked {
	var l []api.Revoked
	for _, serial := range serials {
		l = append(l, api.Revoked{Serial: serial, From: minute})
	}
	return l
}

// many are so many serials, from one on, each from minute 10 on.
func many(first, n int) []api.Revoked {
	var l []api.Revoked
	for i := range n {
		l = append(l, from(10, first+i)...)
	}
	return l
}

// with is a copy of a list with another one at a place.
func with(l []api.Revoked, at int, r api.Revoked) []api.Revoked {
	l = slices.Clone(l)
	l[at] = r
	return l
}

// chosen is a list that may be, as long as asked for, of Serials up to last.
func chosen(r *rand.Rand, n, last int) []api.Revoked {
	serials := map[int]bool{}
	for len(serials) < n {
		serials[1+r.IntN(last)] = true
	}
	var l []api.Revoked
	for serial := range serials {
		l = append(l, api.Revoked{Serial: serial, From: r.IntN(maxMinute + 1)})
	}
	slices.SortFunc(l, func(x, y api.Revoked) int { return x.Serial - y.Serial })
	return l
}

// rightLists may be.
func rightLists() map[string][]api.Revoked {
	return map[string][]api.Revoked{
		"nil":            nil,
		"empty":          {},
		"the example":    from(10, 7),
		"Serial 1":       from(10, 1),
		"MaxSerial":      from(10, maxSerial),
		"below it":       from(10, maxSerial-1),
		"From 0":         from(0, 7),
		"From 1":         from(1, 7),
		"MaxMinute":      from(maxMinute, 7),
		"below MaxMin":   from(maxMinute-1, 7),
		"both ends":      {{Serial: 1, From: maxMinute}, {Serial: maxSerial}},
		"next to":        from(3, maxSerial-1, maxSerial),
		"Froms fall":     {{Serial: 1, From: 9}, {Serial: 2, From: 8}, {Serial: 3, From: 0}},
		"Froms the same": from(5, 1, 2, 3),
		"MaxRevoked":     many(1, maxRevoked),
		"up to the last": many(maxSerial-maxRevoked+1, maxRevoked),
		"one fewer":      many(1, maxRevoked-1),
	}
}

// wrongOnes are in no list that may be.
func wrongOnes() map[string]api.Revoked {
	return map[string]api.Revoked{
		"Serial 0":        {From: 10},
		"Serial -1":       {Serial: -1, From: 10},
		"above MaxSerial": {Serial: maxSerial + 1, From: 10},
		"a great Serial":  {Serial: math.MaxInt, From: 10},
		"a low Serial":    {Serial: math.MinInt, From: 10},
		"2^32 more":       {Serial: 1<<32 + 7, From: 10},
		"From -1":         {Serial: 7, From: -1},
		"above MaxMinute": {Serial: 7, From: maxMinute + 1},
		"a great From":    {Serial: 7, From: math.MaxInt},
		"a low From":      {Serial: 7, From: math.MinInt},
		"From 2^32":       {Serial: 7, From: 1 << 32},
		"both":            {Serial: -1, From: -1},
		"zero":            {},
	}
}

// wrongLists may not be.
func wrongLists() map[string][]api.Revoked {
	told := map[string][]api.Revoked{
		"twice":             from(10, 7, 7),
		"twice, lesser":     {{Serial: 7, From: 10}, {Serial: 7, From: 9}},
		"twice, greater":    {{Serial: 7, From: 10}, {Serial: 7, From: 11}},
		"falls":             from(10, 8, 7),
		"falls at the end":  from(10, 1, 2, 3, 2),
		"falls at the head": from(10, 3, 1, 2, 4),
		"twice, apart":      from(10, 7, 8, 7),
		"one more":          many(1, maxRevoked+1),
		"twice as many":     many(1, 2*maxRevoked),
		"a great many":      many(1, 5000),
		"zero ones":         make([]api.Revoked, 3),
	}
	for name, r := range wrongOnes() {
		told[name] = []api.Revoked{r}
		told[name+", behind one"] = []api.Revoked{{Serial: 1}, r}
		told[name+", ahead of one"] = []api.Revoked{r, {Serial: maxSerial}}
	}
	return told
}

func mustMerge(t *testing.T, a, b []api.Revoked) []api.Revoked {
	t.Helper()
	l, err := Merge(a, b)
	if err != nil {
		t.Fatal("Merge", a, b, err)
	}
	return l
}

func mustBytes(t *testing.T, l []api.Revoked) []byte {
	t.Helper()
	b, err := Bytes(l)
	if err != nil {
		t.Fatal("Bytes", l, err)
	}
	return b
}

func mustParse(t *testing.T, b []byte) []api.Revoked {
	t.Helper()
	l, err := Parse(b)
	if err != nil {
		t.Fatal("Parse", b, err)
	}
	return l
}

// merges holds a merge, and the other order's, against what it should be.
func merges(t *testing.T, name any, a, b, want []api.Revoked) {
	t.Helper()
	if l, err := Merge(a, b); err != nil || !slices.Equal(l, want) {
		t.Error(name, l, err, "for", want)
	}
	if l, err := Merge(b, a); err != nil || !slices.Equal(l, want) {
		t.Error(name, "the other order", l, err, "for", want)
	}
}

func wontMerge(t *testing.T, name any, a, b []api.Revoked, want api.Code) {
	t.Helper()
	if l, err := Merge(a, b); l != nil || err != error(want) {
		t.Error(name, l, err, "for", want)
	}
}

func isOfNoForm(t *testing.T, name any, b []byte) {
	t.Helper()
	if l, err := Parse(b); l != nil || err != error(api.ErrForm) {
		t.Error(name, l, err)
	}
}

// minutes are those around a From, and far from it.
func minutes(around int) []int {
	return []int{
		math.MinInt, -1, 0, 1, around - 1, around, around + 1, 2*around + 1,
		maxMinute - 1, maxMinute, maxMinute + 1, math.MaxInt,
	}
}

// P11.1: May

func TestListsThatMayBe(t *testing.T) {
	for name, l := range rightLists() {
		if !May(l) || !otherMay(l) {
			t.Error(name)
		}
	}
}

func TestListsThatMayNotBe(t *testing.T) {
	for name, l := range wrongLists() {
		if May(l) || otherMay(l) {
			t.Error(name)
		}
	}
}

func TestAWrongOneAtEachPlace(t *testing.T) {
	l := many(1, maxRevoked)
	for at := range l {
		for name, r := range wrongOnes() {
			// Where the Serial is right, it is that place's own.
			if r.Serial == 7 {
				r.Serial = at + 1
			}
			if May(with(l, at, r)) {
				t.Error(name, at)
			}
		}
	}
}

func TestSerialsTwiceOrFallingAtEachPlace(t *testing.T) {
	for n := 2; n <= maxRevoked; n += 18 {
		l := many(1, n)
		for at := range n - 1 {
			twice, falls := with(l, at, l[at+1]), with(with(l, at, l[at+1]), at+1, l[at])
			if May(twice) || May(falls) {
				t.Error(n, at)
			}
		}
	}
}

func TestHowManyMayBe(t *testing.T) {
	for n := range 2*maxRevoked + 2 {
		for _, first := range []int{1, 5000, maxSerial - n + 1} {
			if May(many(first, n)) != (n <= 200) {
				t.Error(first, n)
			}
		}
		// The last one's Serial is above MaxSerial.
		if n > 0 && May(many(maxSerial-n+2, n)) {
			t.Error("above", n)
		}
	}
}

func TestAllShortLists(t *testing.T) {
	serials, froms := []int{-1, 0, 1, 2, maxSerial, maxSerial + 1}, []int{-1, 0, maxMinute, maxMinute + 1}
	var ones []api.Revoked
	for _, serial := range serials {
		for _, minute := range froms {
			ones = append(ones, api.Revoked{Serial: serial, From: minute})
		}
	}
	for _, x := range ones {
		for _, y := range ones {
			for _, z := range ones {
				for n := range 4 {
					l := []api.Revoked{x, y, z}[:n]
					if May(l) != otherMay(l) {
						t.Fatal(l)
					}
				}
			}
		}
	}
}

// P11.1: Is

func TestTheExample(t *testing.T) {
	l := from(10, 7)
	if Is(l, 7, 9) || !Is(l, 7, 10) {
		t.Error("7 from 10 on")
	}
}

func TestFromWhichMinuteOn(t *testing.T) {
	for _, minute := range []int{0, 1, 2, 10, 1440, maxMinute - 1, maxMinute} {
		for _, serial := range []int{1, 7, maxSerial} {
			l := from(minute, serial)
			if Is(l, serial, minute-1) || !Is(l, serial, minute) || !Is(l, serial, minute+1) || !Is(l, serial, math.MaxInt) {
				t.Error(serial, minute)
			}
			for _, at := range minutes(minute) {
				if Is(l, serial, at) != (at >= minute) {
					t.Error(serial, minute, at)
				}
			}
		}
	}
}

func TestSerialsThatArentThere(t *testing.T) {
	for name, l := range rightLists() {
		for _, serial := range []int{math.MinInt, -7, -1, 0, 4, 6, 8, 1000, maxSerial + 1, 1<<32 + 7, math.MaxInt} {
			if slices.ContainsFunc(l, func(r api.Revoked) bool { return r.Serial == serial }) {
				continue
			}
			for _, at := range minutes(10) {
				if Is(l, serial, at) {
					t.Error(name, serial, at)
				}
			}
		}
	}
}

func TestEachGoesByItsOwnMinute(t *testing.T) {
	l := []api.Revoked{{Serial: 2, From: 30}, {Serial: 4, From: 10}, {Serial: 6, From: 20}, {Serial: 8, From: 10}}
	for serial := range 11 {
		for at := range 41 {
			if Is(l, serial, at) != otherIs(l, serial, at) {
				t.Error(serial, at)
			}
		}
	}
	if Is(l, 2, 29) || !Is(l, 4, 10) || Is(l, 6, 19) || !Is(l, 6, 20) || !Is(l, 2, 30) {
		t.Error("another's minute")
	}
}

func TestEachPlaceIsAsked(t *testing.T) {
	for _, n := range []int{1, 2, 3, 100, 199, 200} {
		for i, r := range many(5, n) {
			if l := many(5, n); !Is(l, r.Serial, 10) || Is(l, r.Serial, 9) {
				t.Error(n, i)
			}
		}
		if Is(many(5, n), 4, 10) || Is(many(5, n), 5+n, 10) {
			t.Error(n, "beside")
		}
	}
}

func TestNothingIsRevokedByAListThatMayNotBe(t *testing.T) {
	for name, l := range wrongLists() {
		for _, r := range append(from(0, 1, 7, maxSerial), l...) {
			for _, at := range minutes(10) {
				if Is(l, r.Serial, at) {
					t.Error(name, r.Serial, at)
				}
			}
		}
	}
}

func TestOneBadPlaceAndTheOneThatIsAsked(t *testing.T) {
	l := many(1, 9)
	if !Is(l, 5, 10) {
		t.Error("no bad place")
	}
	for bad := range l {
		for name, r := range wrongOnes() {
			if r.Serial == 7 {
				r.Serial = bad + 1
			}
			for serial := range 11 {
				if Is(with(l, bad, r), serial, 10) || Is(with(l, bad, r), serial, math.MaxInt) {
					t.Error(name, bad, serial)
				}
			}
		}
	}
	if Is(many(1, 201), 1, 10) || Is(many(1, 201), 100, 10) || Is(many(1, 201), 201, 10) {
		t.Error("one too many")
	}
}

// P11.1: Merge

func TestMergeWithNone(t *testing.T) {
	for name, l := range rightLists() {
		merges(t, name, l, nil, l)
		merges(t, name, l, []api.Revoked{}, l)
		merges(t, name, l, l, l)
		merges(t, name, l, slices.Clone(l), l)
	}
}

func TestMergeOfTheSameSerials(t *testing.T) {
	merges(t, "lesser", from(10, 7), from(9, 7), from(9, 7))
	merges(t, "greater", from(10, 7), from(11, 7), from(10, 7))
	merges(t, "0", from(0, 7), from(maxMinute, 7), from(0, 7))
	merges(t, "all lesser", from(10, 1, 2, 3), from(5, 1, 2, 3), from(5, 1, 2, 3))
	merges(t, "now one, now the other",
		[]api.Revoked{{Serial: 1, From: 5}, {Serial: 2, From: 9}, {Serial: 3, From: 4}},
		[]api.Revoked{{Serial: 1, From: 6}, {Serial: 2, From: 8}, {Serial: 3, From: 4}},
		[]api.Revoked{{Serial: 1, From: 5}, {Serial: 2, From: 8}, {Serial: 3, From: 4}})
	r := rand.New(rand.NewPCG(11, 1))
	for _, n := range []int{1, 2, 50, 199, 200} {
		a := chosen(r, n, maxSerial)
		b := slices.Clone(a)
		for i := range b {
			b[i].From = r.IntN(maxMinute + 1)
		}
		merges(t, n, a, b, otherMerge(a, b))
	}
}

func TestMergeOfUnlikeSerials(t *testing.T) {
	merges(t, "between", from(3, 1, 3, 5), from(4, 2, 4),
		[]api.Revoked{{Serial: 1, From: 3}, {Serial: 2, From: 4}, {Serial: 3, From: 3}, {Serial: 4, From: 4}, {Serial: 5, From: 3}})
	merges(t, "ahead", from(3, 10, 11), from(4, 1, 2),
		[]api.Revoked{{Serial: 1, From: 4}, {Serial: 2, From: 4}, {Serial: 10, From: 3}, {Serial: 11, From: 3}})
	merges(t, "behind", from(3, 1, 2), from(4, 10, 11),
		[]api.Revoked{{Serial: 1, From: 3}, {Serial: 2, From: 3}, {Serial: 10, From: 4}, {Serial: 11, From: 4}})
	merges(t, "within", from(3, 1, 9), from(4, 4, 5),
		[]api.Revoked{{Serial: 1, From: 3}, {Serial: 4, From: 4}, {Serial: 5, From: 4}, {Serial: 9, From: 3}})
	merges(t, "the ends", from(3, 1), from(4, maxSerial),
		[]api.Revoked{{Serial: 1, From: 3}, {Serial: maxSerial, From: 4}})
	merges(t, "some in both", from(3, 1, 2, 4), from(2, 2, 3, 4, 5),
		[]api.Revoked{{Serial: 1, From: 3}, {Serial: 2, From: 2}, {Serial: 3, From: 2}, {Serial: 4, From: 2}, {Serial: 5, From: 2}})
	merges(t, "a lesser minute elsewhere", from(1, 1), from(9, 2),
		[]api.Revoked{{Serial: 1, From: 1}, {Serial: 2, From: 9}})
}

func TestHowManyTwoTogetherMayHave(t *testing.T) {
	for _, c := range []struct {
		name         string
		a, b         []api.Revoked
		serials      int
		serialsTwice int
	}{
		{"all of one", many(1, 200), nil, 200, 0},
		{"one more", many(1, 199), many(200, 1), 200, 0},
		{"one too many", many(1, 200), many(201, 1), 201, 0},
		{"one too many, ahead", many(2, 200), many(1, 1), 201, 0},
		{"one too many, between", append(many(1, 100), many(102, 100)...), many(101, 1), 201, 0},
		{"half each", many(1, 100), many(101, 100), 200, 0},
		{"half and one more", many(1, 101), many(102, 100), 201, 0},
		{"twice as many", many(1, 200), many(201, 200), 400, 0},
		{"all in both", many(1, 200), many(1, 200), 200, 200},
		{"one in both, at most", many(1, 200), many(200, 1), 200, 1},
		{"one in both, one more", many(1, 200), many(200, 2), 201, 1},
		{"half in both", many(1, 150), many(51, 150), 200, 100},
		{"half in both, one more", many(1, 150), many(51, 151), 201, 100},
		{"all but one in both", many(1, 200), many(2, 200), 201, 199},
	} {
		l := otherMerge(c.a, c.b)
		if len(l) != c.serials || len(c.a)+len(c.b)-len(l) != c.serialsTwice {
			t.Fatal(c.name, len(l))
		}
		if c.serials <= 200 {
			merges(t, c.name, c.a, c.b, l)
			continue
		}
		wontMerge(t, c.name, c.a, c.b, api.ErrLarge)
		wontMerge(t, c.name, c.b, c.a, api.ErrLarge)
	}
}

func TestMergeAtEachCount(t *testing.T) {
	for n := range 201 {
		for _, more := range []int{199, 200, 201} {
			if other := more - n; other >= 0 && other <= 200 {
				a, b := many(1, n), many(1+n, other)
				if more <= 200 {
					merges(t, []int{n, more}, a, b, many(1, more))
				} else {
					wontMerge(t, []int{n, more}, a, b, api.ErrLarge)
					wontMerge(t, []int{n, more}, b, a, api.ErrLarge)
				}
			}
		}
	}
}

func TestMergeOfListsThatMayNotBe(t *testing.T) {
	for name, l := range wrongLists() {
		for other, right := range rightLists() {
			wontMerge(t, name+" with "+other, l, right, api.ErrArg)
			wontMerge(t, other+" with "+name, right, l, api.ErrArg)
		}
		wontMerge(t, name, l, l, api.ErrArg)
		wontMerge(t, name, l, from(10, 8, 7), api.ErrArg)
		wontMerge(t, name, from(10, 8, 7), l, api.ErrArg)
	}
}

func TestWhichErrorIsFirst(t *testing.T) {
	full := many(1000, 200)
	for bad := range 200 {
		l := with(many(1, 200), bad, api.Revoked{Serial: bad + 1, From: -1})
		wontMerge(t, bad, l, full, api.ErrArg)
		wontMerge(t, bad, full, l, api.ErrArg)
	}
	wontMerge(t, "too many themselves", many(1, 201), full, api.ErrArg)
	wontMerge(t, "too many themselves", full, many(1, 201), api.ErrArg)
	wontMerge(t, "too many themselves", many(1, 201), nil, api.ErrArg)
	wontMerge(t, "too many themselves", nil, many(1, 201), api.ErrArg)
	wontMerge(t, "both too many", many(1, 201), many(1, 201), api.ErrArg)
	wontMerge(t, "none wrong", many(1, 200), full, api.ErrLarge)
}

func TestMergeAgainstAnotherWay(t *testing.T) {
	r := rand.New(rand.NewPCG(11, 2))
	merged, refused := 0, 0
	for i := range 2000 {
		last := []int{210, 300, 1000, maxSerial}[r.IntN(4)]
		a, b := chosen(r, r.IntN(201), last), chosen(r, r.IntN(201), last)
		want := otherMerge(a, b)
		if len(want) > 200 {
			wontMerge(t, i, a, b, api.ErrLarge)
			wontMerge(t, i, b, a, api.ErrLarge)
			refused++
			continue
		}
		merges(t, i, a, b, want)
		merged++
	}
	if merged < 300 || refused < 300 {
		t.Error("the lists tell little", merged, refused)
	}
}

// P11.2: Bytes

func TestKnownBytes(t *testing.T) {
	for _, c := range []struct {
		l    []api.Revoked
		want string
	}{
		{nil, "01 0000"},
		{[]api.Revoked{}, "01 0000"},
		{from(10, 7), "01 0010 0000000000000007 000000000000000a"},
		{from(0, 1), "01 0010 0000000000000001 0000000000000000"},
		{from(maxMinute, maxSerial), "01 0010 000000007fffffff 0000000040000000"},
		{
			[]api.Revoked{{Serial: 1, From: 258}, {Serial: 66051, From: 4}},
			"01 0020 0000000000000001 0000000000000102 0000000000010203 0000000000000004",
		},
		{
			[]api.Revoked{{Serial: 5, From: 3}, {Serial: 6, From: 2}, {Serial: 255, From: 256}},
			"01 0030 0000000000000005 0000000000000003 0000000000000006 0000000000000002 00000000000000ff 0000000000000100",
		},
	} {
		if b, err := Bytes(c.l); err != nil || !bytes.Equal(b, unhex(c.want)) {
			t.Errorf("%v: %x %v", c.l, b, err)
		}
		if l, err := Parse(unhex(c.want)); err != nil || !slices.Equal(l, c.l) {
			t.Error(c.l, l, err)
		}
	}
}

func TestBytesOfMaxRevoked(t *testing.T) {
	b := mustBytes(t, many(1, 200))
	if len(b) != 3203 || b[0] != 1 || b[1] != 0x0c || b[2] != 0x80 || b[3+199*16+7] != 200 || b[3202] != 10 {
		t.Errorf("%x", b)
	}
}

func TestBytesOfEachCount(t *testing.T) {
	r := rand.New(rand.NewPCG(11, 3))
	for n := range 201 {
		l := chosen(r, n, maxSerial)
		if b := mustBytes(t, l); !bytes.Equal(b, otherBytes(l)) {
			t.Error(n, b)
		}
	}
	for name, l := range rightLists() {
		if b := mustBytes(t, l); !bytes.Equal(b, otherBytes(l)) {
			t.Error(name, b)
		}
	}
}

func TestBytesOfListsThatMayNotBe(t *testing.T) {
	for name, l := range wrongLists() {
		if b, err := Bytes(l); b != nil || err != error(api.ErrArg) {
			t.Error(name, b, err)
		}
	}
}

// P11.2: Parse

func TestParseOfNoBytes(t *testing.T) {
	isOfNoForm(t, "nil", nil)
	isOfNoForm(t, "empty", []byte{})
	if l := mustParse(t, []byte{1, 0, 0}); len(l) != 0 {
		t.Error(l)
	}
}

func TestParseOfBytesCutOffOrWithMore(t *testing.T) {
	for name, l := range rightLists() {
		whole := otherBytes(l)
		for at := range whole {
			isOfNoForm(t, name, whole[:at])
			isOfNoForm(t, name, whole[at+1:])
		}
		for more := range 256 {
			isOfNoForm(t, name, append(bytes.Clone(whole), byte(more)))
			isOfNoForm(t, name, append([]byte{byte(more)}, whole...))
		}
		for _, size := range []int{2, 3, 8, 15, 16, 17, 1 << 16} {
			isOfNoForm(t, name, append(bytes.Clone(whole), make([]byte, size)...))
		}
	}
}

func TestParseWithEachByteChanged(t *testing.T) {
	parsed, refused := 0, 0
	for _, l := range [][]api.Revoked{nil, from(10, 7), from(maxMinute, 1, 256), {{Serial: 3, From: 9}, {Serial: 65536}, {Serial: maxSerial, From: 1 << 20}}} {
		whole := otherBytes(l)
		for at := range whole {
			for value := range 256 {
				b := bytes.Clone(whole)
				b[at] = byte(value)
				want, ok := otherParse(b)
				if !ok {
					isOfNoForm(t, []int{at, value}, b)
					refused++
					continue
				}
				if got := mustParse(t, b); !slices.Equal(got, want) {
					t.Error(at, value, got)
				}
				parsed++
			}
		}
	}
	if parsed < 1000 || refused < 1000 {
		t.Error("the changes tell little", parsed, refused)
	}
}

func TestParseOfOtherFields(t *testing.T) {
	one, two := inner(from(10, 7)), inner(from(10, 8))
	isOfNoForm(t, "two fields", append(laid(1, one), laid(2, two)...))
	isOfNoForm(t, "two of Tag 1", append(laid(1, one), laid(1, two)...))
	isOfNoForm(t, "the same one twice", append(laid(1, one), laid(1, one)...))
	isOfNoForm(t, "a second one of none", append(laid(1, one), laid(2, nil)...))
	isOfNoForm(t, "a first one of none", append(laid(1, nil), laid(2, two)...))
	isOfNoForm(t, "both of none", append(laid(1, nil), laid(2, nil)...))
	isOfNoForm(t, "Tags that fall", append(laid(2, two), laid(1, one)...))
	isOfNoForm(t, "one behind", append(laid(1, one), laid(255, one)...))
	isOfNoForm(t, "no field", one)
	var fields []byte
	for tag := 1; tag <= 64; tag++ {
		fields = append(fields, laid(tag, inner(from(10, tag)))...)
	}
	isOfNoForm(t, "64 fields", fields)
	for tag := range 256 {
		if tag == 1 {
			continue
		}
		isOfNoForm(t, tag, laid(tag, one))
		isOfNoForm(t, tag, laid(tag, nil))
	}
}

func TestParseOfOtherSizes(t *testing.T) {
	// Numbers from 1 on, so that whole ones are those of a list.
	var long []byte
	for n := range 5000 {
		long = append(long, numbers(uint64(n+1), uint64(n))...)
	}
	for size := range 3300 {
		b := laid(1, long[:size])
		if size%16 == 0 && size <= 3200 {
			if l := mustParse(t, b); len(l) != size/16 || !bytes.Equal(otherBytes(l), b) {
				t.Error(size, len(l))
			}
			continue
		}
		isOfNoForm(t, size, b)
	}
	for _, size := range []int{1, 8, 15, 17, 3201, 3208, 3215, 3216, 6400, 65519, 65520, 65521, 65535} {
		isOfNoForm(t, size, laid(1, long[:size]))
	}
}

func TestParseOfNumbersThatMayNotBe(t *testing.T) {
	serials := []uint64{0, maxSerial + 1, 1 << 32, 1<<32 + 7, 1 << 62, 1<<63 - 1, 1 << 63, 1<<63 + 7, math.MaxUint64 - 1, math.MaxUint64}
	froms := []uint64{maxMinute + 1, 1 << 32, 1<<32 + 7, 1 << 62, 1<<63 - 1, 1 << 63, 1<<63 + 7, math.MaxUint64 - 1, math.MaxUint64}
	ahead, behind := numbers(1, 10), numbers(maxSerial, 10)
	hold := func(name string, serial, minute uint64) {
		one := numbers(serial, minute)
		isOfNoForm(t, name, laid(1, one))
		isOfNoForm(t, name+", ahead", laid(1, slices.Concat(one, behind)))
		isOfNoForm(t, name+", behind", laid(1, slices.Concat(ahead, one)))
		isOfNoForm(t, name+", between", laid(1, slices.Concat(ahead, one, behind)))
	}
	for _, serial := range serials {
		hold("Serial", serial, 10)
		for _, minute := range froms {
			hold("both", serial, minute)
		}
	}
	for _, minute := range froms {
		hold("From", 7, minute)
	}
	if l := mustParse(t, laid(1, slices.Concat(ahead, numbers(7, maxMinute), behind))); len(l) != 3 {
		t.Error(l)
	}
}

func TestParseOfListsThatMayNotBe(t *testing.T) {
	for name, l := range wrongLists() {
		if len(l) <= 4095 {
			isOfNoForm(t, name, otherBytes(l))
		}
	}
	l := many(1, 200)
	for at := range 199 {
		isOfNoForm(t, at, otherBytes(with(l, at, l[at+1])))
		isOfNoForm(t, at, otherBytes(with(with(l, at, l[at+1]), at+1, l[at])))
	}
	isOfNoForm(t, "one more", otherBytes(many(1, 201)))
	isOfNoForm(t, "as many as a field holds", otherBytes(many(1, 4095)))
	if got := mustParse(t, otherBytes(l)); !slices.Equal(got, l) {
		t.Error(got)
	}
}

func TestParseOfLargeBytes(t *testing.T) {
	isOfNoForm(t, "zeros", make([]byte, 1<<20))
	isOfNoForm(t, "ones", bytes.Repeat([]byte{1}, 1<<20))
	isOfNoForm(t, "more behind it", append(otherBytes(many(1, 200)), make([]byte, 1<<20)...))
}

// P11.3

// callAll makes each call with lists, may they be or not.
func callAll(a, b []api.Revoked) {
	for _, l := range [][]api.Revoked{a, b} {
		May(l)
		Bytes(l)
		for _, at := range []int{-1, 9, 10, maxMinute} {
			Is(l, 7, at)
		}
	}
	Merge(a, b)
	Merge(b, a)
	Merge(a, a)
}

// handed is a copy of a list with two marks behind it, in the room that it has.
func handed(l []api.Revoked) (whole, list []api.Revoked) {
	whole = append(slices.Clone(l), api.Revoked{Serial: 99, From: 98}, api.Revoked{Serial: 97, From: 96})
	return whole, whole[:len(l)]
}

func TestListsThatAreHandedInStay(t *testing.T) {
	lists := []([]api.Revoked){
		nil, from(10, 7), from(9, 7), from(11, 6, 7, 8), many(1, 199), many(1, 200), many(50, 200), many(1, 201),
		from(10, 8, 7), from(10, 7, 7), from(-1, 7), from(10, 0), from(10, maxSerial+1, 5),
	}
	for i, x := range lists {
		for j, y := range lists {
			wholeA, a := handed(x)
			wholeB, b := handed(y)
			wantA, wantB := slices.Clone(wholeA), slices.Clone(wholeB)
			callAll(a, b)
			if !slices.Equal(wholeA, wantA) || !slices.Equal(wholeB, wantB) {
				t.Error(i, j, wholeA, wholeB)
			}
		}
	}
}

func TestMergeOfPartsOfOneList(t *testing.T) {
	l := many(1, 30)
	for cut := range 31 {
		merges(t, cut, l[:cut], l[cut:], many(1, 30))
		merges(t, cut, l[:cut], l, many(1, 30))
		merges(t, cut, l[cut:], l, many(1, 30))
		if !slices.Equal(l, many(1, 30)) {
			t.Fatal(cut, l)
		}
	}
}

func TestBytesThatAreHandedInStay(t *testing.T) {
	for i, b := range [][]byte{
		{}, otherBytes(nil), otherBytes(from(10, 7)), otherBytes(many(1, 200)), otherBytes(many(1, 201)),
		otherBytes(from(10, 8, 7)), otherBytes(from(10, 7))[1:], laid(2, inner(from(10, 7))), laid(1, make([]byte, 17)),
		append(otherBytes(from(10, 7)), 5),
	} {
		whole := append(bytes.Clone(b), "marks"...)
		Parse(whole[:len(b)])
		if string(whole) != string(b)+"marks" {
			t.Error(i, whole)
		}
	}
}

// spoil changes all that a list of bytes holds, and has room for.
func spoil(b []byte) {
	b = b[:cap(b)]
	for i := range b {
		b[i] ^= 0xff
	}
}

// spoilList likewise.
func spoilList(l []api.Revoked) {
	l = l[:cap(l)]
	for i := range l {
		l[i] = api.Revoked{Serial: -1, From: -5}
	}
}

func TestBytesThatWereToldAreTheCallers(t *testing.T) {
	for _, n := range []int{0, 1, 2, 200} {
		l := many(1, n)
		first, second := mustBytes(t, l), mustBytes(t, l)
		spoil(first)
		if !slices.Equal(l, many(1, n)) || !bytes.Equal(second, otherBytes(l)) || !bytes.Equal(mustBytes(t, l), second) {
			t.Error(n)
		}
		spoilList(l)
		if !bytes.Equal(second, otherBytes(many(1, n))) {
			t.Error("hangs on the list", n)
		}
	}
}

func TestListsThatWereParsedAreTheCallers(t *testing.T) {
	for _, n := range []int{0, 1, 2, 200} {
		b := otherBytes(many(1, n))
		first, second := mustParse(t, b), mustParse(t, b)
		spoilList(first)
		if !bytes.Equal(b, otherBytes(many(1, n))) || !slices.Equal(second, many(1, n)) || !slices.Equal(mustParse(t, b), second) {
			t.Error(n)
		}
		spoil(b)
		if !slices.Equal(second, many(1, n)) {
			t.Error("hangs on the bytes", n)
		}
	}
}

func TestListsThatWereMergedAreTheCallers(t *testing.T) {
	lists := [][]api.Revoked{nil, {}, from(10, 7), from(9, 7, 8), many(1, 100), many(50, 150)}
	for i, x := range lists {
		for j, y := range lists {
			a, b := slices.Clone(x), slices.Clone(y)
			want := otherMerge(x, y)
			first, second := mustMerge(t, a, b), mustMerge(t, a, b)
			spoilList(first)
			if !slices.Equal(a, x) || !slices.Equal(b, y) || !slices.Equal(second, want) || !slices.Equal(mustMerge(t, a, b), want) {
				t.Error(i, j)
			}
			spoilList(a)
			spoilList(b)
			if !slices.Equal(second, want) {
				t.Error("hangs on the lists", i, j)
			}
		}
	}
}

func TestWhatWasToldStaysWhenMoreIsTold(t *testing.T) {
	b, l, merged := mustBytes(t, many(1, 3)), mustParse(t, otherBytes(many(1, 3))), mustMerge(t, many(1, 2), many(2, 2))
	mustBytes(t, many(7, 4))
	mustParse(t, otherBytes(many(7, 4)))
	mustMerge(t, many(7, 2), many(8, 3))
	Parse(otherBytes(many(1, 3))[1:])
	callAll(from(10, 2, 1), many(1, 200))
	if !bytes.Equal(b, otherBytes(many(1, 3))) || !slices.Equal(l, many(1, 3)) || !slices.Equal(merged, many(1, 3)) {
		t.Error(b, l, merged)
	}
}

func TestNothingIsKept(t *testing.T) {
	for range 3 {
		if !Is(from(10, 7), 7, 10) || Is(nil, 7, 10) || Is(from(11, 7), 7, 10) || Is(from(10, 8), 7, 10) {
			t.Error("another list's")
		}
		merges(t, "one", from(10, 7), from(5, 7), from(5, 7))
		merges(t, "without the other", from(10, 7), nil, from(10, 7))
	}
}

// P11.4

func TestWhatIsRevokedInOneOfBothIsSoInBothMerged(t *testing.T) {
	r := rand.New(rand.NewPCG(11, 4))
	for i := range 300 {
		a, b := chosen(r, r.IntN(8), 12), chosen(r, r.IntN(8), 12)
		for _, l := range [][]api.Revoked{a, b} {
			for j := range l {
				l[j].From = r.IntN(10)
			}
		}
		l := mustMerge(t, a, b)
		if !May(l) {
			t.Fatal(i, l)
		}
		for serial := range 15 {
			for at := -1; at <= 10; at++ {
				if Is(l, serial, at) != (Is(a, serial, at) || Is(b, serial, at)) {
					t.Fatal(i, a, b, serial, at)
				}
			}
		}
	}
}

func TestBothOrdersAreTheSame(t *testing.T) {
	r := rand.New(rand.NewPCG(11, 5))
	for i := range 500 {
		a, b := chosen(r, r.IntN(150), 260), chosen(r, r.IntN(150), 260)
		one, err := Merge(a, b)
		other, bad := Merge(b, a)
		if err != bad || !slices.Equal(one, other) {
			t.Error(i, err, bad)
		}
	}
	for name, wrong := range wrongLists() {
		_, err := Merge(wrong, many(1, 200))
		if _, bad := Merge(many(1, 200), wrong); err != bad {
			t.Error(name, err, bad)
		}
	}
}

func TestThreeMergedInEachOrder(t *testing.T) {
	r := rand.New(rand.NewPCG(11, 6))
	for i := range 200 {
		a, b, c := chosen(r, r.IntN(67), 100), chosen(r, r.IntN(67), 100), chosen(r, r.IntN(67), 100)
		want := otherMerge(otherMerge(a, b), c)
		for _, l := range [][][]api.Revoked{{a, b, c}, {a, c, b}, {b, c, a}} {
			merges(t, i, mustMerge(t, l[0], l[1]), l[2], want)
		}
	}
}

func TestWhatIsRevokedIsSoLater(t *testing.T) {
	r := rand.New(rand.NewPCG(11, 7))
	for range 200 {
		l := chosen(r, 1+r.IntN(20), 30)
		for j := range l {
			l[j].From = r.IntN(40)
		}
		for serial := range 32 {
			was := false
			for at := -1; at < 45; at++ {
				is := Is(l, serial, at)
				if was && !is {
					t.Fatal(l, serial, at)
				}
				was = is
			}
			if was != slices.ContainsFunc(l, func(r api.Revoked) bool { return r.Serial == serial }) {
				t.Fatal(l, serial)
			}
		}
	}
}

func TestAListIsParsedAsItWas(t *testing.T) {
	r := rand.New(rand.NewPCG(11, 8))
	for n := range 201 {
		for _, last := range []int{200, maxSerial} {
			l := chosen(r, n, last)
			b := mustBytes(t, l)
			if got := mustParse(t, b); !slices.Equal(got, l) || !bytes.Equal(mustBytes(t, got), b) {
				t.Error(n, got)
			}
		}
	}
	for name, l := range rightLists() {
		if got := mustParse(t, mustBytes(t, l)); !slices.Equal(got, l) || !May(got) {
			t.Error(name, got)
		}
	}
}

func TestMergedListsAreParsedAsTheyWere(t *testing.T) {
	l := mustMerge(t, from(5, 1, 3), from(4, 2, 3))
	again := mustParse(t, mustBytes(t, l))
	want := []api.Revoked{{Serial: 1, From: 5}, {Serial: 2, From: 4}, {Serial: 3, From: 4}}
	if !slices.Equal(again, want) || Is(again, 3, 3) || !Is(again, 3, 4) {
		t.Error(again)
	}
}

// P1

func TestEverySerialAndMinuteEnds(t *testing.T) {
	lists := wrongLists()
	for name, l := range rightLists() {
		lists["right: "+name] = l
	}
	for name, l := range lists {
		for _, at := range minutes(10) {
			for _, serial := range []int{math.MinInt, -1, 0, 1, 7, maxSerial, maxSerial + 1, math.MaxInt} {
				if Is(l, serial, at) != otherIs(l, serial, at) {
					t.Error(name, serial, at)
				}
			}
		}
	}
}

func FuzzParse(f *testing.F) {
	for n := range 4 {
		b := otherBytes(many(1, n))
		f.Add(b)
		f.Add(append(b, 1))
	}
	f.Fuzz(func(t *testing.T, b []byte) {
		want, ok := otherParse(b)
		if !ok {
			isOfNoForm(t, b, b)
			return
		}
		if l, err := Parse(b); err != nil || !slices.Equal(l, want) {
			t.Error(b, l, err)
		}
	})
}
