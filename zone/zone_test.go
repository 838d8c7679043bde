package zone_test

import (
	"math"
	"slices"
	"testing"

	"pagewatch/api"
	"pagewatch/zone"
)

const (
	hour     = 3600
	day      = 86400
	week     = 604800
	most     = 1 << 33
	widest   = 64800
	may      = 11078 * day // the local time 2000-05-01 0:00, a Monday
	newYear  = 11323 * day // 2001-01-01 0:00, a Monday
	lastDay  = 98980 * day // 2240-12-31 0:00, a Thursday
	spring   = 1774746000  // 2026-03-29 1:00 UTC
	autumn   = 1792890000  // 2026-10-25 1:00 UTC
	mostDay  = 99420       // MaxInstant without an offset
	mostRest = 46592
	margin   = 25 // seconds by which the transitions of a small zone change the offset at most
)

// europe has an hour more in summer, from 2020 to 2030.
func europe() api.Zone {
	return in(hour,
		api.YearRule{From: 2020, To: 2030, Month: 3, Week: 5, Weekday: 6, Second: 2 * hour, Offset: 2 * hour},
		api.YearRule{From: 2020, To: 2030, Month: 10, Week: 5, Weekday: 6, Second: 3 * hour, Offset: hour})
}

func in(offset int, rules ...api.YearRule) api.Zone {
	return api.Zone{Name: "z", Offset: offset, Rules: rules}
}

// on returns a rule for one Monday of May 2000, of which there are five; the first one is the 1st of May.
func on(monday, second, offset int) api.YearRule {
	return api.YearRule{From: 2000, To: 2000, Month: 5, Week: monday, Second: second, Offset: offset}
}

// atStart returns a rule for the day 0.
func atStart(second, offset int) api.YearRule {
	return api.YearRule{From: 1970, To: 1970, Month: 1, Week: 1, Weekday: 3, Second: second, Offset: offset}
}

// atEnd returns a rule for the last valid day.
func atEnd(second, offset int) api.YearRule {
	return api.YearRule{From: 2240, To: 2240, Month: 12, Week: 5, Weekday: 3, Second: second, Offset: offset}
}

// yearly returns a rule for the first Monday of a month.
func yearly(from, to, month, offset int) api.YearRule {
	return api.YearRule{From: from, To: to, Month: month, Week: 1, Offset: offset}
}

func local(day, second int) api.Local { return api.Local{Day: day, Second: second} }

// localAt returns the local time that lies so many seconds behind 1970-01-01 0:00.
func localAt(seconds int) api.Local {
	d := 0
	for seconds < 0 {
		d, seconds = d-1, seconds+day
	}
	return local(d+seconds/day, seconds%day)
}

// at returns the transitions whose instants and offsets are given in pairs.
func at(numbers ...int) []api.Transition {
	var l []api.Transition
	for i := 0; i+1 < len(numbers); i += 2 {
		l = append(l, api.Transition{At: numbers[i], Offset: numbers[i+1]})
	}
	return l
}

// invalidZones has a zone for each step at which Transitions finds an error.
func invalidZones() []api.Zone {
	return []api.Zone{
		in(widest + 1), in(math.MinInt), in(0, slices.Repeat([]api.YearRule{on(1, 0, 0)}, 17)...), in(0, api.YearRule{}), in(0, on(1, 0, 60), on(6, 0, 0)),
		in(0, yearly(1970, 2240, 1, 60), yearly(1970, 2240, 1, 60), yearly(1970, 2240, 1, 60)),
		in(0, on(1, 0, 60), on(1, hour, 0)), in(widest, on(1, 0, -widest)), in(60, atStart(0, 0)), in(0, on(1, 0, 60), on(3, 0, 0), on(4, 0, 0), on(3, 1, 60)),
	}
}

// mixedNumbers returns a function whose results are less than n and look as if by chance, but are the same in each run.
func mixedNumbers() func(n int) int {
	state := uint64(1)
	return func(n int) int {
		state = state*6364136223846793005 + 1442695040888963407
		return int((state >> 24) % uint64(n))
	}
}

// expectTransitions compares Transitions, Check and Horizon with what they must return.
func expectTransitions(t *testing.T, z api.Zone, want []api.Transition, wantError api.Errno) {
	t.Helper()
	if got, e := zone.Transitions(z); !slices.Equal(got, want) || e != wantError {
		t.Errorf("Transitions(%v) = %v, %d, want %v, %d", z, got, e, want, wantError)
	}
	if e := zone.Check(z); e != wantError {
		t.Errorf("Check(%v) = %d, want %d", z, e, wantError)
	}
	horizon := 0
	if len(want) > 0 {
		horizon = want[len(want)-1].At
	}
	if got := zone.Horizon(z); got != horizon {
		t.Errorf("Horizon(%v) = %d, want %d", z, got, horizon)
	}
}

// expectErrors compares the errors of the functions of an instant and of a local time with those that they must return; the other results of an error must be zero.
func expectErrors(t *testing.T, z api.Zone, instant int, wantAt api.Errno, l api.Local, wantLocal api.Errno) {
	t.Helper()
	offset, e := zone.OffsetAt(z, instant)
	found, f := zone.ToLocal(z, instant)
	if e != wantAt || f != wantAt || e != api.OK && (offset != 0 || found != api.Local{}) {
		t.Errorf("%v at %d: OffsetAt = %d, %d, ToLocal = %v, %d, want %d", z, instant, offset, e, found, f, wantAt)
	}
	all, e := zone.FromLocal(z, l)
	first, f := zone.First(z, l)
	if e != wantLocal || f != wantLocal || e != api.OK && (len(all) != 0 || first != 0) {
		t.Errorf("%v at %v: FromLocal = %v, %d, First = %d, %d, want %d", z, l, all, e, first, f, wantLocal)
	}
}

// The following functions say what the definitions say, day by day, and second by second.

// occurs reports whether a rule has an occurrence on a date whose month has so many days.
func occurs(r api.YearRule, year, month, date, length, weekday int) bool {
	inWeek := (date-1)/7+1 == r.Week || r.Week == 5 && date+7 > length
	return r.From <= year && year <= r.To && r.Month == month && r.Weekday == weekday && inWeek
}

// wantTransitions returns the transitions of a zone whose rules are valid, and are few enough.
func wantTransitions(z api.Zone) ([]api.Transition, api.Errno) {
	var l []api.Transition
	number, offset, e := 0, z.Offset, api.OK
	for year := 1970; year <= 2240; year++ {
		for month, length := range []int{31, 28, 31, 30, 31, 30, 31, 31, 30, 31, 30, 31} {
			if month == 1 && (year%400 == 0 || year%100 != 0 && year%4 == 0) {
				length++
			}
			for date := 1; date <= length; date++ {
				var rules []api.YearRule // those of this day, in the order of their seconds
				for _, r := range z.Rules {
					if occurs(r, year, month+1, date, length, (number+3)%7) {
						i := len(rules)
						for i > 0 && rules[i-1].Second > r.Second {
							i--
						}
						rules = slices.Insert(rules, i, r)
					}
				}
				for _, r := range rules {
					instant := number*day + r.Second - offset
					if r.Offset == offset {
						continue
					}
					if r.Offset-offset >= day || offset-r.Offset >= day || instant < 0 || instant > most || len(l) > 0 && instant-l[len(l)-1].At < week {
						e = api.ErrOrder
					}
					l = append(l, api.Transition{At: instant, Offset: r.Offset})
					offset = r.Offset
				}
				number++
			}
		}
	}
	if e != api.OK {
		return nil, e
	}
	return l, api.OK
}

// wantOffset returns the offset of an instant.
func wantOffset(z api.Zone, l []api.Transition, instant int) int {
	offset := z.Offset
	for _, x := range l {
		if x.At <= instant {
			offset = x.Offset
		}
	}
	return offset
}

// expectTimes compares the functions of instants and local times for all instants from low to high, and for the local times that belong to no others.
func expectTimes(t *testing.T, z api.Zone, l []api.Transition, low, high int) {
	t.Helper()
	low, high = max(low, 0), min(high, most)
	seconds := make([]int, high-low+1) // the local time of low + i
	for i := range seconds {
		offset := wantOffset(z, l, low+i)
		seconds[i] = low + i + offset
		if got, e := zone.OffsetAt(z, low+i); got != offset || e != api.OK {
			t.Fatalf("OffsetAt(%v, %d) = %d, %d, want %d", z, low+i, got, e, offset)
		}
		if got, e := zone.ToLocal(z, low+i); got != localAt(seconds[i]) || e != api.OK {
			t.Fatalf("ToLocal(%v, %d) = %v, %d, want %v", z, low+i, got, e, localAt(seconds[i]))
		}
	}
	from, to := seconds[0]+margin, seconds[len(seconds)-1]-margin
	if low == 0 {
		from -= 2 * margin
	}
	if high == most {
		to += 2 * margin
	}
	for s := from; s <= to; s++ {
		expectInstants(t, z, s, seconds, low)
	}
}

// expectInstants compares FromLocal and First for one local time; seconds has the local times from the instant low on.
func expectInstants(t *testing.T, z api.Zone, s int, seconds []int, low int) {
	t.Helper()
	var want []int
	first, wantError := 0, api.ErrNone
	for i := len(seconds) - 1; i >= 0; i-- {
		if seconds[i] == s {
			want = append(want, low+i)
		}
		if seconds[i] >= s {
			first, wantError = low+i, api.OK
		}
	}
	slices.Reverse(want)
	if got, e := zone.FromLocal(z, localAt(s)); !slices.Equal(got, want) || e != api.OK {
		t.Fatalf("FromLocal(%v, %v) = %v, %d, want %v", z, localAt(s), got, e, want)
	}
	if got, e := zone.First(z, localAt(s)); got != first || e != wantError {
		t.Fatalf("First(%v, %v) = %d, %d, want %d, %d", z, localAt(s), got, e, first, wantError)
	}
}

// P4.1 and P4.4

func TestTransitionsOfKnownZones(t *testing.T) {
	expectTransitions(t, api.Zone{}, nil, api.OK)
	expectTransitions(t, api.Zone{Offset: 20700, Rules: []api.YearRule{}}, nil, api.OK)
	expectTransitions(t, europe(), at(
		1585443600, 7200, 1603587600, 3600, 1616893200, 7200, 1635642000, 3600, 1648342800, 7200, 1667091600, 3600,
		1679792400, 7200, 1698541200, 3600, 1711846800, 7200, 1729990800, 3600, 1743296400, 7200, 1761440400, 3600,
		spring, 7200, autumn, 3600, 1806195600, 7200, 1824944400, 3600, 1837645200, 7200, 1856394000, 3600,
		1869094800, 7200, 1887843600, 3600, 1901149200, 7200, 1919293200, 3600), api.OK)
	sydney := in(10*hour,
		api.YearRule{From: 2008, To: 2010, Month: 4, Week: 1, Weekday: 6, Second: 3 * hour, Offset: 10 * hour},
		api.YearRule{From: 2008, To: 2010, Month: 10, Week: 1, Weekday: 6, Second: 2 * hour, Offset: 11 * hour})
	// The first occurrence, in April 2008, changes nothing.
	expectTransitions(t, sydney, at(1223136000, 39600, 1238860800, 36000, 1254585600, 39600, 1270310400, 36000, 1286035200, 39600), api.OK)
	newYork := in(-5*hour,
		api.YearRule{From: 2007, To: 2008, Month: 3, Week: 2, Weekday: 6, Second: 2 * hour, Offset: -4 * hour},
		api.YearRule{From: 2007, To: 2008, Month: 11, Week: 1, Weekday: 6, Second: 2 * hour, Offset: -5 * hour})
	expectTransitions(t, newYork, at(1173596400, -14400, 1194156000, -18000, 1205046000, -14400, 1225605600, -18000), api.OK)
}

func TestNameOfZone(t *testing.T) {
	for _, name := range []string{"", "z", "two words", "\x00\xff", string(make([]byte, 1000))} {
		z := in(0, on(1, 0, 60))
		z.Name = name
		expectTransitions(t, z, at(may, 60), api.OK)
	}
}

func TestOffsetOfZone(t *testing.T) {
	for _, offset := range []int{0, 1, -1, 3600, widest - 1, widest, 1 - widest, -widest} {
		expectTransitions(t, in(offset), nil, api.OK)
		expectTransitions(t, in(offset, on(1, 0, offset)), nil, api.OK)
		if got, e := zone.OffsetAt(in(offset), 5); got != offset || e != api.OK {
			t.Errorf("OffsetAt with %d = %d, %d", offset, got, e)
		}
	}
	for _, offset := range []int{widest + 1, -widest - 1, day, -day, math.MaxInt, math.MinInt} {
		expectTransitions(t, in(offset), nil, api.ErrRange)
		expectTransitions(t, in(offset, on(1, 0, 0)), nil, api.ErrRange)
	}
}

func TestNumberOfRules(t *testing.T) {
	for n := range 20 {
		rules := slices.Repeat([]api.YearRule{on(1, 0, 60)}, n)
		switch {
		case n == 0:
			expectTransitions(t, in(0, rules...), nil, api.OK)
		case n <= 16:
			expectTransitions(t, in(0, rules...), at(may, 60), api.OK)
		default:
			expectTransitions(t, in(0, rules...), nil, api.ErrLimit)
		}
	}
}

func TestBoundsOfRules(t *testing.T) {
	good := api.YearRule{From: 2000, To: 2001, Month: 5, Week: 2, Weekday: 3, Second: 7200, Offset: 60}
	for name, x := range map[string]struct {
		set       func(r *api.YearRule, n int)
		low, high int
	}{
		"From":    {func(r *api.YearRule, n int) { r.From, r.To = n, 2240 }, 1970, 2240},
		"To":      {func(r *api.YearRule, n int) { r.From, r.To = 1970, n }, 1970, 2240},
		"To from": {func(r *api.YearRule, n int) { r.From, r.To = 2000, n }, 2000, 2240},
		"From to": {func(r *api.YearRule, n int) { r.From, r.To = n, 2000 }, 1970, 2000},
		"Year":    {func(r *api.YearRule, n int) { r.From, r.To = n, n }, 1970, 2240},
		"Month":   {func(r *api.YearRule, n int) { r.Month = n }, 1, 12},
		"Week":    {func(r *api.YearRule, n int) { r.Week = n }, 1, 5},
		"Weekday": {func(r *api.YearRule, n int) { r.Weekday = n }, 0, 6},
		"Second":  {func(r *api.YearRule, n int) { r.Second = n }, 0, day - 1},
		"Offset":  {func(r *api.YearRule, n int) { r.Offset = n }, -widest, widest},
	} {
		for _, n := range []int{x.low, x.low + 1, x.high - 1, x.high, x.low - 1, x.high + 1, x.low - 500, x.high + 500, math.MinInt, math.MaxInt} {
			r, want := good, api.OK
			x.set(&r, n)
			if n < x.low || n > x.high {
				want = api.ErrRange
			}
			if e := zone.Check(in(0, r)); e != want {
				t.Errorf("%s %d: Check = %d, want %d", name, n, e, want)
			}
			if e := zone.Check(in(0, good, r, good)); want != api.OK && e != want {
				t.Errorf("%s %d, between others: Check = %d, want %d", name, n, e, want)
			}
		}
	}
	expectTransitions(t, in(0, api.YearRule{From: math.MinInt, To: math.MaxInt, Month: 5, Week: 2}), nil, api.ErrRange)
	expectTransitions(t, in(0, api.YearRule{From: math.MaxInt, To: math.MinInt, Month: 5, Week: 2}), nil, api.ErrRange)
	expectTransitions(t, in(0, api.YearRule{}), nil, api.ErrRange)
}

func TestNumberOfOccurrences(t *testing.T) {
	// All of these are transitions: 271, 271 and 98, and then one more.
	full := in(0, yearly(1970, 2240, 1, 60), yearly(1970, 2240, 7, 0), yearly(1970, 2067, 10, 120))
	if l, e := zone.Transitions(full); len(l) != 640 || e != api.OK || zone.Horizon(full) != l[639].At {
		t.Errorf("Transitions = %d of them, %d, Horizon = %d", len(l), e, zone.Horizon(full))
	}
	full.Rules[2].To++
	expectTransitions(t, full, nil, api.ErrLimit)
	// Occurrences that change nothing, or are equal, count, too.
	expectTransitions(t, in(60, yearly(1970, 2240, 1, 60), yearly(1970, 2240, 1, 60), yearly(1970, 2067, 1, 60)), nil, api.OK)
	expectTransitions(t, in(60, yearly(1970, 2240, 1, 60), yearly(1970, 2240, 1, 60), yearly(1970, 2068, 1, 60)), nil, api.ErrLimit)
	expectTransitions(t, in(60, slices.Repeat([]api.YearRule{yearly(1970, 2009, 1, 60)}, 16)...), nil, api.OK)
	expectTransitions(t, in(60, append(slices.Repeat([]api.YearRule{yearly(1970, 2009, 1, 60)}, 15), yearly(1970, 2010, 1, 60))...), nil, api.ErrLimit)
	expectTransitions(t, in(60, slices.Repeat([]api.YearRule{yearly(1970, 2240, 1, 60)}, 16)...), nil, api.ErrLimit)
}

func TestOrderOfErrors(t *testing.T) {
	many := slices.Repeat([]api.YearRule{yearly(1970, 2240, 1, 60)}, 3)
	near := []api.YearRule{on(1, 0, 60), on(1, hour, 0)}
	none := api.YearRule{From: 2000, To: 2000, Month: 13, Week: 1}
	for i, x := range []struct {
		z    api.Zone
		want api.Errno
	}{
		{in(widest+1, slices.Repeat(many, 6)...), api.ErrRange}, {in(-widest-1, near...), api.ErrRange}, {in(widest+1, many...), api.ErrRange}, // the offset
		{in(0, slices.Repeat([]api.YearRule{none}, 17)...), api.ErrLimit}, {in(0, append(slices.Repeat(near, 8), none)...), api.ErrLimit}, // the rules
		{in(0, append(many, none)...), api.ErrRange}, {in(0, append([]api.YearRule{none}, many...)...), api.ErrRange}, {in(0, append(near, none)...), api.ErrRange}, // a rule
		{in(0, append(near, many...)...), api.ErrLimit}, {in(0, slices.Repeat(near, 8)...), api.ErrOrder}, // the occurrences
	} {
		if l, e := zone.Transitions(x.z); len(l) != 0 || e != x.want {
			t.Errorf("%d: Transitions = %v, %d, want %d", i, l, e, x.want)
		}
		expectErrors(t, x.z, 5, api.ErrInvalid, local(1, 5), api.ErrInvalid)
	}
}

func TestOrderOfOccurrences(t *testing.T) {
	// Whatever the order of the rules.
	expectTransitions(t, in(0, on(1, 0, 30), on(3, 0, 60)), at(may, 30, may+2*week-30, 60), api.OK)
	expectTransitions(t, in(0, on(3, 0, 60), on(1, 0, 30)), at(may, 30, may+2*week-30, 60), api.OK)
	expectTransitions(t, in(0, yearly(2001, 2001, 1, 60), on(1, 0, 30)), at(may, 30, newYear-30, 60), api.OK)
	expectTransitions(t, in(0, yearly(2001, 2001, 1, 60), yearly(2000, 2000, 5, 30)), at(may, 30, newYear-30, 60), api.OK)
	// The instant follows from the offset before, not from that of the zone or the new one.
	expectTransitions(t, in(-60, on(1, 5, hour), on(3, 0, -hour), on(5, 0, 2*hour)), at(may+65, hour, may+2*week-hour, -hour, may+4*week+hour, 2*hour), api.OK)
	// Occurrences of one day, by their seconds.
	expectTransitions(t, in(0, on(1, 7, 0), on(1, 8, 60)), at(may+8, 60), api.OK)
	expectTransitions(t, in(0, on(1, 8, 60), on(1, 7, 0)), at(may+8, 60), api.OK)
}

func TestOccurrencesWithoutChange(t *testing.T) {
	expectTransitions(t, in(60, on(1, 0, 60)), nil, api.OK)
	expectTransitions(t, in(0, yearly(2000, 2010, 5, 60)), at(may, 60), api.OK)
	expectTransitions(t, in(0, on(1, 0, 60), on(3, 0, 60), on(5, 0, 0)), at(may, 60, may+4*week-60, 0), api.OK)
	// They may follow each other within a week, and lie before 0; they are not the transition from which a week is counted.
	expectTransitions(t, in(0, on(1, 0, 60), on(1, 1, 60), on(2, 59, 60)), at(may, 60), api.OK)
	expectTransitions(t, in(0, on(1, 0, 60), on(2, 59, 60), on(2, 60, 0)), at(may, 60, may+week, 0), api.OK)
	expectTransitions(t, in(hour, atStart(0, hour)), nil, api.OK)
	expectTransitions(t, in(hour, atStart(0, hour), atStart(hour, 60)), at(0, 60), api.OK)
}

func TestEqualOccurrences(t *testing.T) {
	expectTransitions(t, in(0, on(1, 0, 0), on(1, 0, 60)), at(may, 60), api.OK)
	expectTransitions(t, in(0, on(1, 0, 60), on(1, 0, 0)), nil, api.ErrOrder)
	expectTransitions(t, in(0, on(1, 0, 60), on(1, 0, 60)), at(may, 60), api.OK)
	// The rules are equal to each other in one year only, or are written otherwise.
	expectTransitions(t, in(0, yearly(2000, 2000, 5, 0), yearly(2000, 2001, 5, 60)), at(may, 60), api.OK)
	expectTransitions(t, in(0, yearly(2000, 2001, 5, 60), yearly(2000, 2000, 5, 0)), nil, api.ErrOrder)
	last := api.YearRule{From: 2001, To: 2001, Month: 2, Week: 5, Weekday: 2, Offset: 0} // the fourth Wednesday is the last one
	fourth := api.YearRule{From: 2001, To: 2001, Month: 2, Week: 4, Weekday: 2, Offset: 60}
	expectTransitions(t, in(0, last, fourth), at(newYear+58*day, 60), api.OK)
	expectTransitions(t, in(0, fourth, last), nil, api.ErrOrder)
}

func TestManyEqualOccurrences(t *testing.T) {
	// In May of each year, 14 rules leave the offset as it is, and only behind them one changes it until January; in any other order one of the 14 would undo this at once.
	rules := append([]api.YearRule{yearly(2001, 2040, 1, 0)}, slices.Repeat([]api.YearRule{yearly(2000, 2039, 5, 0)}, 14)...)
	rules = append(rules, yearly(2000, 2039, 5, 60))
	l, e := zone.Transitions(in(0, rules...))
	if len(l) != 80 || e != api.OK {
		t.Fatalf("Transitions = %v, %d", l, e)
	}
	for i, x := range l {
		if want := 60 * ((i + 1) % 2); x.Offset != want {
			t.Errorf("transition %d: %v, want the offset %d", i, x, want)
		}
	}
	for i := range 14 {
		rules[i+1], rules[15] = rules[15], rules[i+1]
		expectTransitions(t, in(0, rules...), nil, api.ErrOrder)
		rules[i+1], rules[15] = rules[15], rules[i+1]
	}
}

func TestTransitionsWithinAWeek(t *testing.T) {
	// Seven days of local time are a week and less than that if the clock was put forward, more if it was put back.
	expectTransitions(t, in(0, on(1, 0, 60), on(2, 60, 0)), at(may, 60, may+week, 0), api.OK)
	expectTransitions(t, in(0, on(1, 0, 60), on(2, 59, 0)), nil, api.ErrOrder)
	expectTransitions(t, in(0, on(1, 60, -60), on(2, 0, 0)), at(may+60, -60, may+week+60, 0), api.OK)
	expectTransitions(t, in(0, on(1, 61, -60), on(2, 0, 0)), nil, api.ErrOrder)
	expectTransitions(t, in(0, on(2, 60, 0), on(1, 0, 60)), at(may, 60, may+week, 0), api.OK)
	// At the same instant, and in the wrong order: the later local time has the earlier instant.
	expectTransitions(t, in(0, on(1, 0, hour), on(1, hour, 0)), nil, api.ErrOrder)
	expectTransitions(t, in(0, on(1, 0, hour), on(1, hour-1, 0)), nil, api.ErrOrder)
	expectTransitions(t, in(0, on(1, 0, hour), on(1, 1, 2*hour)), nil, api.ErrOrder)
	// The week is counted from the one before, not from the first one, and from transitions only.
	expectTransitions(t, in(0, on(1, 0, 60), on(3, 0, 0), on(4, 0, 60)), at(may, 60, may+2*week-60, 0, may+3*week, 60), api.OK)
	expectTransitions(t, in(0, on(1, 0, 60), on(3, 0, 0), on(3, day-1, 60)), nil, api.ErrOrder)
	expectTransitions(t, in(0, on(1, 1, -1), on(2, 0, 0), on(3, 1, 1)), at(may+1, -1, may+1+week, 0, may+1+2*week, 1), api.OK)
	expectTransitions(t, in(0, on(1, 1, -1), on(2, 0, 0), on(3, 0, 1)), nil, api.ErrOrder)
	// Before the first transition there is none, wherever it lies.
	expectTransitions(t, in(0, atStart(5, 60)), at(5, 60), api.OK)
}

func TestChangesOfADay(t *testing.T) {
	for _, x := range [][2]int{{0, widest}, {widest, 0}, {0, -widest}, {-widest, 0}, {widest, -21599}, {-widest, 21599}, {-21599, widest}, {21599, -widest}, {43199, -43200}, {-43200, 43199}} {
		expectTransitions(t, in(x[0], on(1, 5, x[1])), at(may+5-x[0], x[1]), api.OK)
		expectTransitions(t, in(60, on(1, 5, x[0]), on(4, 5, x[1])), at(may-55, x[0], may+3*week+5-x[0], x[1]), api.OK)
	}
	for _, x := range [][2]int{{widest, -21600}, {-widest, 21600}, {-21600, widest}, {21600, -widest}, {43200, -43200}, {-43200, 43200}, {widest, -widest}, {-widest, widest}} {
		expectTransitions(t, in(x[0], on(1, 5, x[1])), nil, api.ErrOrder)
		expectTransitions(t, in(60, on(1, 5, x[0]), on(4, 5, x[1])), nil, api.ErrOrder)
	}
	// The change is that from the offset before, not from that of the zone.
	expectTransitions(t, in(-widest, on(1, 0, 0), on(3, 0, widest)), at(may+widest, 0, may+2*week, widest), api.OK)
}

func TestTransitionsAtTheEnds(t *testing.T) {
	expectTransitions(t, in(0, atStart(0, 60)), at(0, 60), api.OK)
	expectTransitions(t, in(hour, atStart(hour, 0)), at(0, 0), api.OK)
	expectTransitions(t, in(hour, atStart(hour-1, 0)), nil, api.ErrOrder)
	expectTransitions(t, in(widest, atStart(0, 0)), nil, api.ErrOrder)
	expectTransitions(t, in(widest, atStart(0, widest), atStart(widest, 0)), at(0, 0), api.OK)
	expectTransitions(t, in(-widest, atStart(0, 0)), at(widest, 0), api.OK)
	// No occurrence lies after MaxInstant: these are the last ones that there may be.
	expectTransitions(t, in(0, atEnd(0, 60)), at(lastDay, 60), api.OK)
	expectTransitions(t, in(-widest, atEnd(day-1, 0)), at(lastDay+day-1+widest, 0), api.OK)
	expectTransitions(t, in(widest, atEnd(day-1, 0)), at(lastDay+day-1-widest, 0), api.OK)
}

func TestTransitionsOfMixedZones(t *testing.T) {
	number := mixedNumbers()
	seconds, offsets := []int{0, 1, 59, 60, hour, day - 1}, []int{0, 0, 60, 60, -60, hour, 21600, -43200, widest, -widest}
	counts := map[api.Errno]int{}
	for range 400 {
		z := in(offsets[number(len(offsets))])
		for range 1 + number(5) {
			from := 1970 + number(3)
			z.Rules = append(z.Rules, api.YearRule{
				From: from, To: from + number(3), Month: 1 + number(3), Week: 1 + number(5), Weekday: 2 + number(3),
				Second: seconds[number(len(seconds))], Offset: offsets[number(len(offsets))],
			})
		}
		want, e := wantTransitions(z)
		expectTransitions(t, z, want, e)
		counts[e]++
	}
	if counts[api.OK] < 100 || counts[api.ErrOrder] < 100 {
		t.Errorf("the zones are too much alike: %v", counts)
	}
}

func TestTransitionsOfLongZones(t *testing.T) {
	for i, z := range []api.Zone{
		in(0, yearly(1970, 2240, 1, 60), yearly(1970, 2240, 7, 0)),
		in(-widest, yearly(1970, 2240, 12, 0), yearly(1971, 2239, 6, -hour)),
		in(widest, api.YearRule{From: 1980, To: 2240, Month: 2, Week: 5, Weekday: 6, Second: day - 1, Offset: hour}, api.YearRule{From: 1980, To: 2240, Month: 11, Week: 4, Weekday: 0, Second: 1, Offset: 0}),
	} {
		want, e := wantTransitions(z)
		if len(want) < 500 || e != api.OK {
			t.Fatalf("%d: %d transitions, %d", i, len(want), e)
		}
		expectTransitions(t, z, want, api.OK)
		for n, x := range want {
			for _, instant := range []int{x.At - 1, x.At, x.At + 1} {
				offset := wantOffset(z, want, instant)
				if got, e := zone.OffsetAt(z, instant); got != offset || e != api.OK {
					t.Fatalf("%d, %d: OffsetAt(%d) = %d, %d, want %d", i, n, instant, got, e, offset)
				}
			}
		}
	}
}

// P4.2

func TestOffsetAt(t *testing.T) {
	z := in(-60, on(1, 0, hour), on(3, 0, -hour), on(5, 0, 2*hour)) // at may + 60, may + 2 weeks - hour, may + 4 weeks + hour
	for _, x := range [][2]int{
		{0, -60}, {1, -60}, {may, -60}, {may + 59, -60}, {may + 60, hour}, {may + 61, hour}, {may + week, hour}, {may + 2*week - hour - 1, hour}, {may + 2*week - hour, -hour},
		{may + 4*week + hour - 1, -hour}, {may + 4*week + hour, 2 * hour}, {may + 9*week, 2 * hour}, {most - 1, 2 * hour}, {most, 2 * hour},
	} {
		if got, e := zone.OffsetAt(z, x[0]); got != x[1] || e != api.OK {
			t.Errorf("OffsetAt(%d) = %d, %d, want %d", x[0], got, e, x[1])
		}
	}
	for _, x := range [][2]int{{0, 60}, {1, 60}, {most, 60}} {
		if got, e := zone.OffsetAt(in(0, atStart(0, 60)), x[0]); got != x[1] || e != api.OK {
			t.Errorf("with a transition at 0: OffsetAt(%d) = %d, %d", x[0], got, e)
		}
	}
}

func TestToLocal(t *testing.T) {
	for i, x := range []struct {
		z    api.Zone
		t    int
		want api.Local
	}{
		{in(0), 0, local(0, 0)}, {in(0), day - 1, local(0, day-1)}, {in(0), day, local(1, 0)}, {in(0), most, local(mostDay, mostRest)}, {api.Zone{}, may + 7, local(11078, 7)},
		{in(-hour), 0, local(-1, 82800)}, {in(-1), 0, local(-1, day-1)}, {in(-1), 1, local(0, 0)}, {in(-widest), 0, local(-1, 21600)}, {in(-widest), widest - 1, local(-1, day-1)}, {in(-widest), widest, local(0, 0)},
		{in(widest), 0, local(0, widest)}, {in(widest), 21599, local(0, day-1)}, {in(widest), 21600, local(1, 0)}, {in(widest), most, local(mostDay+1, 24992)}, {in(-widest), most, local(mostDay-1, 68192)},
		{europe(), spring - 1, local(20541, 7199)}, {europe(), spring, local(20541, 10800)}, {europe(), autumn - 1, local(20751, 10799)}, {europe(), autumn, local(20751, 7200)},
	} {
		if got, e := zone.ToLocal(x.z, x.t); got != x.want || e != api.OK {
			t.Errorf("%d: ToLocal(%d) = %v, %d, want %v", i, x.t, got, e, x.want)
		}
	}
}

// P4.2 and P4.3

func TestErrorsOfTimes(t *testing.T) {
	outside := []int{-1, -2, -day, math.MinInt, most + 1, most + 2, most + day, math.MaxInt}
	seconds := []int{-1, -2, -day, math.MinInt, day, day + 1, 2 * day, math.MaxInt}
	for _, z := range []api.Zone{{}, europe(), in(widest), in(-widest, on(1, 0, 0))} {
		for i := range outside {
			for _, d := range []int{0, -1, 1, -5, 20541, 1 << 40, math.MinInt, math.MaxInt} { // whether or not there is such an instant
				expectErrors(t, z, outside[i], api.ErrRange, local(d, seconds[i]), api.ErrRange)
			}
		}
		for _, instant := range []int{0, 1, most - 1, most} {
			expectErrors(t, z, instant, api.OK, local(instant/day, 5), api.OK)
		}
	}
	for _, z := range invalidZones() {
		for i := range outside {
			expectErrors(t, z, outside[i], api.ErrInvalid, local(0, seconds[i]), api.ErrInvalid)
			expectErrors(t, z, may, api.ErrInvalid, local(math.MaxInt, 5), api.ErrInvalid)
		}
	}
}

// P4.3

func TestFromLocal(t *testing.T) {
	forward, back := in(-43200, on(1, 0, 43199)), in(43199, on(1, 43199, -43200)) // by a day less a second, at may + 43200 and at may
	for i, x := range []struct {
		z     api.Zone
		l     api.Local
		want  []int
		first int
	}{
		{in(0), local(0, 0), []int{0}, 0}, {in(0), local(mostDay, mostRest), []int{most}, most}, {in(-hour), local(-1, 82800), []int{0}, 0}, {in(widest), local(mostDay+1, 24992), []int{most}, most},
		// Leapt over, and next to that.
		{europe(), local(20541, 7199), []int{spring - 1}, spring - 1}, {europe(), local(20541, 7200), nil, spring}, {europe(), local(20541, 9000), nil, spring}, {europe(), local(20541, 10799), nil, spring}, {europe(), local(20541, 10800), []int{spring}, spring}, {europe(), local(20541, 10801), []int{spring + 1}, spring + 1},
		// Repeated, and next to that.
		{europe(), local(20751, 7199), []int{autumn - 3601}, autumn - 3601}, {europe(), local(20751, 7200), []int{autumn - 3600, autumn}, autumn - 3600}, {europe(), local(20751, 9000), []int{1792888200, 1792891800}, 1792888200}, {europe(), local(20751, 10799), []int{autumn - 1, autumn + 3599}, autumn - 1}, {europe(), local(20751, 10800), []int{autumn + 3600}, autumn + 3600},
		// Nearly a whole day of this.
		{forward, local(11077, day-1), []int{may + 43199}, may + 43199}, {forward, local(11078, 0), nil, may + 43200}, {forward, local(11078, day-2), nil, may + 43200}, {forward, local(11078, day-1), []int{may + 43200}, may + 43200}, {forward, local(11079, 0), []int{may + 43201}, may + 43201},
		{back, local(11077, 43199), []int{may - 86400}, may - 86400}, {back, local(11077, 43200), []int{may - 86399, may}, may - 86399}, {back, local(11078, 43198), []int{may - 1, may + 86398}, may - 1}, {back, local(11078, 43199), []int{may + 86399}, may + 86399},
		// Before the first instant.
		{in(hour), local(0, 0), nil, 0}, {in(hour), local(0, hour-1), nil, 0}, {in(hour), local(0, hour), []int{0}, 0}, {in(0), local(-1, day-1), nil, 0}, {in(-widest), local(-1, 21599), nil, 0}, {in(-widest), local(-1, 0), nil, 0}, {in(-widest), local(-2, day-1), nil, 0},
		{in(0), local(-2, 0), nil, 0}, {in(0), local(-3, day-1), nil, 0}, {in(0), local(math.MinInt, 0), nil, 0}, {in(0), local(math.MinInt, day-1), nil, 0}, {europe(), local(-1<<50, 5), nil, 0}, {europe(), local(-1<<62, 0), nil, 0},
		// A transition at 0 leaves nothing of what lies before it.
		{in(0, atStart(0, 60)), local(0, 0), nil, 0}, {in(0, atStart(0, 60)), local(0, 59), nil, 0}, {in(0, atStart(0, 60)), local(0, 60), []int{0}, 0}, {in(60, atStart(60, 0)), local(0, 0), []int{0}, 0}, {in(60, atStart(60, 0)), local(0, 60), []int{60}, 60}, {in(60, atStart(61, 0)), local(0, 60), []int{0, 60}, 0},
	} {
		if got, e := zone.FromLocal(x.z, x.l); !slices.Equal(got, x.want) || e != api.OK {
			t.Errorf("%d: FromLocal(%v) = %v, %d, want %v", i, x.l, got, e, x.want)
		}
		if got, e := zone.First(x.z, x.l); got != x.first || e != api.OK {
			t.Errorf("%d: First(%v) = %d, %d, want %d", i, x.l, got, e, x.first)
		}
	}
}

func TestFirstOfNoInstant(t *testing.T) {
	for i, x := range []struct {
		z api.Zone
		l api.Local
	}{
		{in(0), local(mostDay, mostRest+1)}, {in(0), local(mostDay, day-1)}, {in(0), local(mostDay+1, 0)}, {in(widest), local(mostDay+1, 24993)}, {in(-widest), local(mostDay-1, 68193)}, {in(widest), local(mostDay+2, 0)}, {in(widest), local(mostDay+3, day-1)},
		{europe(), local(1<<40, 0)}, {europe(), local(1<<50, 0)}, {europe(), local(1<<62, 0)}, {europe(), local(math.MaxInt, 0)}, {europe(), local(math.MaxInt, day-1)}, {europe(), local(math.MaxInt/day, day-1)}, {europe(), local(math.MaxInt/day+1, 0)},
		{in(0, atEnd(0, -widest)), local(mostDay-1, 68193)},
	} {
		if got, e := zone.FromLocal(x.z, x.l); len(got) != 0 || e != api.OK {
			t.Errorf("%d: FromLocal(%v) = %v, %d", i, x.l, got, e)
		}
		if got, e := zone.First(x.z, x.l); got != 0 || e != api.ErrNone {
			t.Errorf("%d: First(%v) = %d, %d", i, x.l, got, e)
		}
	}
}

func TestTimesOfEverySecond(t *testing.T) {
	for _, z := range []api.Zone{
		in(0), in(7), in(-7), in(0, on(1, 5, 7), on(3, 5, -7), on(5, 0, 1)), in(-20, on(1, 0, 0), on(2, 20, -1), on(3, 30, -25), on(4, 40, -1)), in(20, on(1, 0, 0), on(3, 0, 20), on(5, 0, 0)),
		in(0, atStart(0, 9)), in(0, atStart(3, 20)), in(9, atStart(9, 0)), in(9, atStart(12, 0)), in(-9, atStart(0, 0)), in(9, atStart(12, -9)),
		in(widest, on(1, 0, widest-10), on(3, 0, widest)), in(-widest, on(1, 0, 10-widest), on(3, 0, -widest)), in(0, atEnd(0, 20)), in(20, atEnd(0, 0)),
	} {
		l, e := wantTransitions(z)
		if e != api.OK {
			t.Fatalf("%v: %d", z, e)
		}
		expectTimes(t, z, l, 0, 4*margin)
		expectTimes(t, z, l, most-4*margin, most)
		expectTimes(t, z, l, may-2*day-4*margin, may-2*day+4*margin)
		for _, x := range l {
			expectTimes(t, z, l, x.At-4*margin, x.At+4*margin)
		}
	}
}

func TestLocalTimesAreInverse(t *testing.T) {
	for _, z := range []api.Zone{in(0), europe(), in(-widest, on(1, 0, 0), on(4, 7, 20000)), in(widest, yearly(1980, 2100, 5, hour), yearly(1980, 2100, 11, widest))} {
		earlier, number := -1, mixedNumbers()
		for instant := 0; instant <= most; instant += 100000 + number(5000000) {
			l, e := zone.ToLocal(z, instant)
			all, f := zone.FromLocal(z, l)
			first, g := zone.First(z, l)
			if e != api.OK || f != api.OK || g != api.OK || !slices.Contains(all, instant) || len(all) > 2 || !slices.IsSorted(all) || first != all[0] || instant-l.Day*day-l.Second < -widest {
				t.Fatalf("%v at %d: ToLocal = %v, %d, FromLocal = %v, %d, First = %d, %d", z, instant, l, e, all, f, first, g)
			}
			if first <= earlier {
				t.Fatalf("%v: First(%v) = %d, as early as before", z, l, first)
			}
			earlier = first
		}
	}
}

func TestFirstOfLaterDays(t *testing.T) {
	for _, z := range []api.Zone{europe(), in(-43200, on(1, 0, 43199), on(3, 0, -43200)), in(43199, on(1, 43199, -43200), on(4, 0, 43199))} {
		for _, second := range []int{0, 7199, 9000, 43198, 43199, 43200, day - 1} {
			earlier := -1
			for d := 1; d < 22000; d++ {
				first, e := zone.First(z, local(d, second))
				if first <= earlier || e != api.OK {
					t.Fatalf("%v: First(%d, %d) = %d, %d, behind %d", z, d, second, first, e, earlier)
				}
				earlier = first
			}
		}
	}
}

// P4.4

func TestHorizon(t *testing.T) {
	for i, x := range []struct {
		z    api.Zone
		want int
	}{
		{api.Zone{}, 0}, {in(hour), 0}, {in(60, on(1, 0, 60)), 0}, {in(0, atStart(0, 60)), 0}, {in(0, atStart(1, 60)), 1},
		{europe(), 1919293200}, {in(0, on(3, 0, 60), on(1, 0, 30)), may + 2*week - 30}, {in(0, on(1, 0, 60), on(3, 0, 60)), may}, {in(0, atEnd(9, 60)), lastDay + 9},
	} {
		if got := zone.Horizon(x.z); got != x.want {
			t.Errorf("%d: Horizon = %d, want %d", i, got, x.want)
		}
	}
	for i, z := range invalidZones() {
		if got, e := zone.Horizon(z), zone.Check(z); got != 0 || e == api.OK {
			t.Errorf("%d: Horizon = %d, Check = %d", i, got, e)
		}
	}
}

// R2

func TestZoneStaysAsItIs(t *testing.T) {
	z := in(0, on(5, 0, 60), on(3, 0, 0), on(1, 0, 60), yearly(1990, 1995, 4, 30))
	rules := slices.Clone(z.Rules)
	l, e := zone.Transitions(z)
	zone.ToLocal(z, may)
	zone.First(z, local(11077, 0))
	all, _ := zone.FromLocal(z, local(11077, 0))
	if e != api.OK || len(l) == 0 || len(all) == 0 || !slices.Equal(z.Rules, rules) {
		t.Fatalf("%v, %d, %v, %v", l, e, all, z.Rules)
	}
	clear(l)
	clear(all)
	if again, _ := zone.Transitions(z); slices.Equal(again, l) || zone.Horizon(z) == 0 {
		t.Errorf("Transitions = %v after its result was written to", again)
	}
}
