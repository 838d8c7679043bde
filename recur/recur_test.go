package recur_test

import (
	"math"
	"slices"
	"testing"

	"pagewatch/api"
	"pagewatch/recur"
	"pagewatch/zone"
)

const (
	hour     = 3600
	day      = 86400
	week     = 604800
	most     = 1 << 33
	longest  = 400 * day
	widest   = 64800
	least    = math.MinInt
	greatest = math.MaxInt
	newYear  = 946684800  // 2000-01-01 0:00 UTC
	may      = 11078      // 2000-05-01, a Monday
	spring   = 1774746000 // 2026-03-29 1:00 UTC, on the day 20541
	autumn   = 1792890000 // 2026-10-25 1:00 UTC, on the day 20751
	mostDay  = 99420      // MaxInstant without an offset
	mostRest = 46592
)

func in(offset int, rules ...api.YearRule) api.Zone {
	return api.Zone{Name: "z", Offset: offset, Rules: rules}
}

// europe has an hour more in summer, from 2020 to 2030.
func europe() api.Zone {
	return in(hour,
		api.YearRule{From: 2020, To: 2030, Month: 3, Week: 5, Weekday: 6, Second: 2 * hour, Offset: 2 * hour},
		api.YearRule{From: 2020, To: 2030, Month: 10, Week: 5, Weekday: 6, Second: 3 * hour, Offset: hour})
}

// on returns a rule for a weekday of the first week of May 2000, which began on a Monday.
func on(weekday, second, offset int) api.YearRule {
	return api.YearRule{From: 2000, To: 2000, Month: 5, Week: 1, Weekday: weekday, Second: second, Offset: offset}
}

// atStart returns a rule for the day 0.
func atStart(second, offset int) api.YearRule {
	return api.YearRule{From: 1970, To: 1970, Month: 1, Week: 1, Weekday: 3, Second: second, Offset: offset}
}

// manyTransitions has 640 of them, the most that a zone can have, from 1970 to 2235.
func manyTransitions() api.Zone {
	z := in(0)
	for from, to := 1970, 2049; from < 2240; from, to = from+80, to+80 {
		for month := range 2 {
			z.Rules = append(z.Rules, api.YearRule{From: from, To: min(to, 2235), Month: 4 + 6*month, Week: 1, Weekday: 6, Second: 2 * hour, Offset: hour * (1 - month)})
		}
	}
	z.Rules = append(z.Rules, api.YearRule{From: 1970, To: 2023, Month: 6, Week: 1, Weekday: 6, Second: 2 * hour, Offset: 2 * hour}, api.YearRule{From: 1970, To: 2023, Month: 8, Week: 1, Weekday: 6, Second: 2 * hour, Offset: hour})
	return z
}

// invalidZones has a zone for each error of zone.Check.
func invalidZones() []api.Zone {
	return []api.Zone{
		in(widest + 1), in(-widest - 1), in(least), in(greatest), in(0, api.YearRule{}), in(0, on(7, 0, 60)), in(0, on(0, day, 60)),
		in(0, slices.Repeat([]api.YearRule{on(0, 0, 0)}, 17)...), in(0, on(0, 0, 60), on(1, 0, 0)), in(60, atStart(0, 0)), in(widest, on(1, 0, -widest)),
	}
}

func local(day, second int) api.Local { return api.Local{Day: day, Second: second} }

// localAt returns the local time that lies so many seconds behind 1970-01-01 0:00.
func localAt(seconds int) api.Local { return local(seconds/day, seconds%day) }

func layer(day, second, unit, every, members int) api.Layer {
	return api.Layer{Start: local(day, second), Unit: unit, Every: every, Members: make([]int, members)}
}

// apart returns n numbers from a first one on.
func apart(first, step, n int) []int {
	var l []int
	for i := range n {
		l = append(l, first+i*step)
	}
	return l
}

// expectBeginning compares all functions with a layer's first handovers.
func expectBeginning(t *testing.T, z api.Zone, l api.Layer, want ...int) {
	t.Helper()
	for k, at := range want {
		expectHandover(t, z, l, k, at, api.OK)
		expectShift(t, z, l, at-1, k-1)
		expectShift(t, z, l, at, k)
		if k+1 < len(want) {
			expectShift(t, z, l, (at+want[k+1])/2, k)
		}
		if k+1 < len(want) && at+1 < want[k+1] {
			expectShift(t, z, l, at+1, k)
		}
	}
	first, last := want[0], want[len(want)-1]
	early := max(first-week, last+1-longest, 0)
	expectHandovers(t, z, l, first, last+1, want, api.OK)
	expectHandovers(t, z, l, first, last, want[:len(want)-1], api.OK)
	if len(want) > 1 {
		expectHandovers(t, z, l, first+1, last+1, want[1:], api.OK)
	}
	expectHandovers(t, z, l, early, last+1, want, api.OK)
	expectHandovers(t, z, l, early, first, nil, api.OK)
	expectShift(t, z, l, 0, -1)
}

// P10.1

func TestCheckOfZones(t *testing.T) {
	for _, z := range invalidZones() {
		expectWrong(t, z, layer(1, 0, api.UnitHours, 1, 1))
		expectWrong(t, z, layer(may, 9000, api.UnitDays, 1, 2))
		expectWrong(t, z, layer(100000, 86399, api.UnitWeeks, 400, 3))
		expectWrong(t, z, api.Layer{})
	}
	for _, z := range []api.Zone{{}, in(0), in(widest), in(-widest), europe(), manyTransitions(), {Name: "No name of a zone"}} {
		for unit := range 3 {
			expectRight(t, z, layer(1, 0, unit, 1, 1))
			expectRight(t, z, layer(100000, 86399, unit, 400, 12))
		}
	}
}

func TestCheckOfStarts(t *testing.T) {
	for _, d := range []int{least, -100000, -1, 0, 100001, 100002, greatest} {
		for _, second := range []int{0, 1, 43200, 86399} {
			expectWrong(t, in(0), layer(d, second, api.UnitDays, 1, 1))
		}
	}
	for _, d := range []int{1, 2, 20540, mostDay, mostDay + 1, 99999, 100000} {
		for _, second := range []int{0, 1, 43200, 86398, 86399} {
			expectRight(t, in(0), layer(d, second, api.UnitDays, 1, 1))
			expectRight(t, europe(), layer(d, second, api.UnitHours, 1, 1))
		}
		for _, second := range []int{least, -86400, -1, 86400, 86401, greatest} {
			expectWrong(t, in(0), layer(d, second, api.UnitDays, 1, 1))
			expectWrong(t, europe(), layer(d, second, api.UnitHours, 1, 1))
		}
	}
}

func TestCheckOfUnits(t *testing.T) {
	for _, every := range []int{1, 2, 24, 399, 400} {
		for _, unit := range []int{0, 1, 2} {
			expectRight(t, in(0), layer(1, 0, unit, every, 1))
		}
		for _, unit := range []int{least, -2, -1, 3, 4, 3600, greatest} {
			expectWrong(t, in(0), layer(1, 0, unit, every, 1))
		}
	}
	for unit := range 3 {
		for _, every := range []int{least, -400, -1, 0, 401, 402, 1 << 32, greatest} {
			expectWrong(t, in(0), layer(1, 0, unit, every, 1))
		}
	}
}

func TestCheckOfMembers(t *testing.T) {
	l := layer(1, 0, api.UnitDays, 1, 0)
	expectWrong(t, in(0), l)
	l.Members = []int{}
	expectWrong(t, in(0), l)
	for _, n := range []int{1, 2, 12, 13, 99, 5000} {
		expectRight(t, in(0), layer(1, 0, api.UnitDays, 1, n))
	}
	// Who they are is not looked at.
	for _, members := range [][]int{{0, 0}, {5, 1, 5, 5}, {-1}, {least, greatest}, {32, 33}} {
		l.Members = members
		expectRight(t, in(0), l)
	}
}

// TestOtherFields gives the fields of a layer which the chapter does not look at numbers that are not right anywhere.
func TestOtherFields(t *testing.T) {
	l := layer(20540, 9000, api.UnitDays, 1, 2)
	l.Name, l.Zone, l.Calendar, l.Mode = "No name", -5, 99, -1
	l.Windows = []api.Window{{From: 5, To: 4}, {From: -1, To: greatest}}
	expectRight(t, europe(), l)
	expectBeginning(t, europe(), l, 1774661400, spring, 1774830600)
}

// P10.2, P10.3 and P10.4 together, for the first handovers of layers

func TestBeginnings(t *testing.T) {
	for _, x := range []struct {
		z    api.Zone
		l    api.Layer
		want []int
	}{
		{in(0), layer(1, 0, api.UnitHours, 1, 1), apart(day, hour, 30)}, {in(0), layer(1, 0, api.UnitHours, 5, 2), apart(day, 5*hour, 30)}, {in(0), layer(1, 7, api.UnitHours, 400, 2), apart(day+7, 400*hour, 5)},
		{in(0), layer(1, 0, api.UnitDays, 1, 1), apart(day, day, 30)}, {in(0), layer(1, 86399, api.UnitDays, 1, 3), apart(2*day-1, day, 30)}, {in(0), layer(4, 9*hour, api.UnitDays, 7, 2), apart(4*day+9*hour, week, 9)}, {in(0), layer(1, 5, api.UnitDays, 399, 2), apart(day+5, 399*day, 2)},
		{in(0), layer(4, 0, api.UnitWeeks, 1, 1), apart(4*day, week, 9)}, {in(0), layer(5, 1, api.UnitWeeks, 3, 2), apart(5*day+1, 3*week, 5)}, {in(0), layer(5, 1, api.UnitWeeks, 57, 2), apart(5*day+1, 57*week, 2)},
		{in(hour), layer(1, 0, api.UnitDays, 1, 1), apart(day-hour, day, 5)}, {in(-hour), layer(1, 0, api.UnitDays, 1, 1), apart(day+hour, day, 5)}, {in(widest), layer(1, 0, api.UnitDays, 1, 1), apart(6*hour, day, 5)}, {in(-widest), layer(1, 0, api.UnitDays, 1, 1), apart(day+widest, day, 5)},
		{in(widest), layer(1, 0, api.UnitHours, 1, 1), apart(6*hour, hour, 5)}, {in(-widest), layer(1, 86399, api.UnitHours, 1, 1), apart(2*day-1+widest, hour, 5)}, {in(widest), layer(1, 1, api.UnitWeeks, 2, 1), apart(6*hour+1, 2*week, 5)},
		{in(0, atStart(0, 60)), layer(1, 0, api.UnitDays, 1, 1), apart(day-60, day, 5)}, {in(60, atStart(60, 0)), layer(1, 0, api.UnitDays, 1, 1), apart(day, day, 5)}, {in(0, atStart(0, widest)), layer(1, 0, api.UnitHours, 2, 2), apart(6*hour, 2*hour, 5)}, // a transition at 0
		{in(0), layer(mostDay-3, 0, api.UnitDays, 1, 1), apart(mostDay*day-3*day, day, 4)}, {in(0), layer(mostDay-1, mostRest, api.UnitHours, 12, 1), apart(most-day, 12*hour, 2)},
	} {
		expectBeginning(t, x.z, x.l, x.want...)
	}
}

func TestExamples(t *testing.T) {
	z, days := europe(), layer(20540, 9000, api.UnitDays, 1, 2)
	expectBeginning(t, z, days, 1774661400, 1774746000, 1774830600, 1774917000)
	expectBeginning(t, z, layer(20540, 9000, api.UnitHours, 24, 2), apart(1774661400, day, 9)...)
	for _, at := range []int{0, 1, spring - week, 1774661399} {
		expectShift(t, z, days, at, -1)
	}
}

// TestLeaps has handovers whose local times a transition leaps over: 2:00 to 3:00 on the day 20541.
func TestLeaps(t *testing.T) {
	for _, x := range []struct {
		l    api.Layer
		want []int
	}{
		{layer(20539, 2*hour-1, api.UnitDays, 1, 2), []int{spring - 1 - 2*day, spring - 1 - day, spring - 1, spring - 1 + 23*hour, spring - 1 + 47*hour}},
		{layer(20539, 2*hour, api.UnitDays, 1, 2), []int{spring - 2*day, spring - day, spring, spring + 23*hour, spring + 47*hour}},
		{layer(20539, 2*hour+1, api.UnitDays, 1, 2), []int{spring + 1 - 2*day, spring + 1 - day, spring, spring + 1 + 23*hour, spring + 1 + 47*hour}},
		{layer(20539, 3*hour-1, api.UnitDays, 1, 2), []int{spring + hour - 1 - 2*day, spring + hour - 1 - day, spring, spring + day - 1, spring + 2*day - 1}},
		{layer(20539, 3*hour, api.UnitDays, 1, 2), []int{spring + hour - 2*day, spring + hour - day, spring, spring + day, spring + 2*day}},
		{layer(20539, 3*hour+1, api.UnitDays, 1, 2), []int{spring + hour + 1 - 2*day, spring + hour + 1 - day, spring + 1, spring + day + 1}},
		{layer(20541, 9000, api.UnitDays, 1, 1), []int{spring, spring + 23*hour + 1800, spring + 47*hour + 1800}}, // the start itself
		{layer(20541, 9000, api.UnitDays, 2, 1), []int{spring, spring + 47*hour + 1800}},
		{layer(20541, 9000, api.UnitWeeks, 1, 1), []int{spring, spring + week - 1800, spring + 2*week - 1800}},
		{layer(20541, 9000, api.UnitHours, 1, 1), apart(spring, hour, 50)}, {layer(20541, 9000, api.UnitHours, 24, 1), apart(spring, day, 9)}, // elapsed time from the leap on
		{layer(20541, 2*hour-1, api.UnitHours, 1, 1), apart(spring-1, hour, 9)}, {layer(20541, 3*hour, api.UnitHours, 7, 1), apart(spring, 7*hour, 9)},
		{layer(20534, 9000, api.UnitWeeks, 1, 3), []int{spring - week + 1800, spring, spring + week - 1800}}, {layer(20527, 9000, api.UnitWeeks, 2, 3), []int{spring - 2*week + 1800, spring, spring + 2*week - 1800}},
		{layer(20533, 9000, api.UnitWeeks, 1, 3), []int{spring - 8*day + 1800, spring - day + 1800, spring + 6*day - 1800}}, // on another day
		{layer(20540, 23*hour, api.UnitHours, 1, 3), apart(spring-3*hour, hour, 9)}, {layer(20540, 0, api.UnitHours, 25, 3), apart(spring-26*hour, 25*hour, 5)}, {layer(20538, 9000, api.UnitHours, 24, 3), apart(spring-3*day+1800, day, 9)},
	} {
		expectBeginning(t, europe(), x.l, x.want...)
	}
}

// TestRepeatedTimes has handovers whose local times a transition repeats: 2:00 to 3:00 on the day 20751. Each happens once, the first time.
func TestRepeatedTimes(t *testing.T) {
	for _, x := range []struct {
		l    api.Layer
		want []int
	}{
		{layer(20749, 2*hour-1, api.UnitDays, 1, 2), []int{autumn - hour - 1 - 2*day, autumn - hour - 1 - day, autumn - hour - 1, autumn - 1 + day, autumn - 1 + 2*day}},
		{layer(20749, 2*hour, api.UnitDays, 1, 2), []int{autumn - hour - 2*day, autumn - hour - day, autumn - hour, autumn + day, autumn + 2*day}},
		{layer(20749, 9000, api.UnitDays, 1, 2), []int{autumn - 1800 - 2*day, autumn - 1800 - day, autumn - 1800, autumn + 1800 + day, autumn + 1800 + 2*day}},
		{layer(20749, 3*hour-1, api.UnitDays, 1, 2), []int{autumn - 1 - 2*day, autumn - 1 - day, autumn - 1, autumn + hour - 1 + day, autumn + hour - 1 + 2*day}},
		{layer(20749, 3*hour, api.UnitDays, 1, 2), []int{autumn - 2*day, autumn - day, autumn + hour, autumn + hour + day, autumn + hour + 2*day}},
		{layer(20751, 9000, api.UnitDays, 1, 1), []int{autumn - 1800, autumn + 1800 + day, autumn + 1800 + 2*day}}, // the start itself
		{layer(20751, 9000, api.UnitDays, 3, 1), []int{autumn - 1800, autumn + 1800 + 3*day}},
		{layer(20751, 9000, api.UnitWeeks, 1, 1), []int{autumn - 1800, autumn + 1800 + week, autumn + 1800 + 2*week}},
		{layer(20751, 9000, api.UnitHours, 1, 1), apart(autumn-1800, hour, 50)}, {layer(20751, 9000, api.UnitHours, 24, 1), apart(autumn-1800, day, 9)},
		{layer(20751, 2*hour, api.UnitHours, 1, 1), apart(autumn-hour, hour, 9)}, {layer(20751, 3*hour, api.UnitHours, 1, 1), apart(autumn+hour, hour, 9)}, {layer(20751, hour, api.UnitHours, 1, 1), apart(autumn-2*hour, hour, 9)},
		{layer(20744, 9000, api.UnitWeeks, 1, 3), []int{autumn - 1800 - week, autumn - 1800, autumn + 1800 + week}}, {layer(20745, 9000, api.UnitWeeks, 1, 3), []int{autumn - 1800 - 6*day, autumn + 1800 + day}},
		{layer(20748, 9000, api.UnitHours, 24, 3), apart(autumn-1800-3*day, day, 9)}, {layer(20750, 0, api.UnitHours, 25, 3), apart(autumn-27*hour, 25*hour, 5)},
	} {
		expectBeginning(t, europe(), x.l, x.want...)
		// Of each second of the repeated hour, Shift is that of the last handover that has happened, whatever the clock shows.
		for at := autumn - 2*hour; at < autumn+2*hour; at += 97 {
			expectShift(t, europe(), x.l, at, wantShift(x.want, at))
		}
	}
}

// TestWideTransitions has transitions that leap over nearly a day, or repeat it.
func TestWideTransitions(t *testing.T) {
	noon := may*day + day/2 // the local time at the transition
	for _, change := range []int{86399, 86398, 43200, 1, -1, -43200, -86398, -86399} {
		before := -change / 2
		z := in(before, on(0, day/2, before+change))
		at := noon - before
		if l, e := zone.Transitions(z); len(l) != 1 || l[0].At != at || e != api.OK {
			t.Fatalf("Transitions: %v, %d", l, e)
		}
		for second := 0; second < day; second += 1200 {
			for _, s := range []int{second, second + 1, second + 1199} {
				for unit := api.UnitDays; unit <= api.UnitWeeks; unit++ {
					l := layer(may-7, s, unit, 1, 2)
					expectBeginning(t, z, l, handoversUntil(z, l, at+8*day)...)
				}
			}
		}
	}
}

// TestEachSecondNearTransitions moves a handover and a transition against each other.
func TestEachSecondNearTransitions(t *testing.T) {
	const noon = day / 2
	for _, change := range []int{-9, -1, 1, 9} {
		z := in(0, on(1, noon, change))
		at := (may+1)*day + noon
		for second := noon - 12; second < noon+12; second++ {
			for unit := range 3 {
				l := layer(may-6, second, unit, 1, 2)
				all := handoversUntil(z, l, at+9*day)
				for n := at - 25; n < at+25; n++ {
					expectShift(t, z, l, n, wantShift(all, n))
					expectHandovers(t, z, l, n, n+5, wantBetween(all, n, n+5), api.OK)
				}
			}
		}
	}
}

// P10.2

func TestNumbersOfHandovers(t *testing.T) {
	for _, l := range []api.Layer{layer(1, 0, api.UnitHours, 1, 1), layer(1, 0, api.UnitHours, 400, 1), layer(1, 0, api.UnitDays, 1, 1), layer(1, 0, api.UnitWeeks, 400, 1), layer(100000, 86399, api.UnitDays, 1, 1)} {
		for _, k := range []int{-1, -2, -most, least, least + 1} {
			expectHandover(t, in(0), l, k, 0, api.ErrRange)
			expectHandover(t, europe(), l, k, 0, api.ErrRange)
		}
		// Products with these numbers do not fit into 64 bits, or come out small if they are cut.
		for _, k := range []int{greatest, greatest - 1, 1 << 62, 1 << 60, 1 << 59, 1 << 57, 1 << 56, 1<<56 + 1, 1 << 40, most + 1, most, most - 1, 2386070} {
			expectHandover(t, in(0), l, k, 0, api.ErrNone)
			expectHandover(t, europe(), l, k, 0, api.ErrNone)
		}
	}
}

// TestLastHandovers has the number and the instant of the last handover that exists.
func TestLastHandovers(t *testing.T) {
	for _, x := range []struct {
		z       api.Zone
		l       api.Layer
		k, want int
	}{
		{in(0), layer(1, 0, api.UnitHours, 1, 1), 2386068, most - 3392}, {in(0), layer(1, 0, api.UnitHours, 400, 5), 5965, day + 5965*400*hour}, {in(0), layer(1, 3392, api.UnitHours, 1, 1), 2386068, most}, {in(0), layer(1, 3393, api.UnitHours, 1, 1), 2386067, most - 3599},
		{in(0), layer(1, 0, api.UnitDays, 1, 1), 99419, mostDay * day}, {in(0), layer(1, mostRest, api.UnitDays, 1, 2), 99419, most}, {in(0), layer(1, mostRest+1, api.UnitDays, 1, 2), 99418, most + 1 - day}, {in(0), layer(20, 0, api.UnitDays, 400, 1), 248, 99220 * day}, {in(0), layer(220, 0, api.UnitDays, 400, 1), 248, mostDay * day},
		{in(0), layer(1, 0, api.UnitWeeks, 1, 1), 14202, day + 14202*week}, {in(0), layer(6, mostRest, api.UnitWeeks, 1, 1), 14202, most}, {in(0), layer(6, mostRest+1, api.UnitWeeks, 1, 1), 14201, most + 1 - week}, {in(0), layer(1, 0, api.UnitWeeks, 400, 1), 35, day + 35*400*week},
		{in(widest), layer(1, 0, api.UnitDays, 1, 1), 99420, (mostDay+1)*day - widest}, {in(widest), layer(1, 24992, api.UnitDays, 1, 1), 99420, most}, {in(widest), layer(1, 24993, api.UnitDays, 1, 1), 99419, most + 1 - day},
		{in(-widest), layer(1, 0, api.UnitDays, 1, 1), 99418, (mostDay-1)*day + widest}, {in(-widest), layer(1, 68192, api.UnitDays, 1, 1), 99418, most}, {in(-widest), layer(1, 68193, api.UnitDays, 1, 1), 99417, most + 1 - day},
		{in(widest), layer(1, 0, api.UnitHours, 1, 1), 2386086, most - 3392}, {in(-widest), layer(1, 0, api.UnitHours, 1, 1), 2386050, most - 3392},
		{europe(), layer(20540, 9000, api.UnitDays, 1, 2), 78880, mostDay*day + 5400}, {europe(), layer(20541, 9000, api.UnitHours, 1, 1), 1893107, spring + 1893107*hour},
		{in(0), layer(mostDay, mostRest, api.UnitHours, 1, 1), 0, most}, {in(0), layer(mostDay, mostRest, api.UnitDays, 1, 1), 0, most}, {in(0), layer(mostDay, mostRest, api.UnitWeeks, 400, 1), 0, most}, {in(0), layer(mostDay, mostRest-1, api.UnitHours, 1, 1), 0, most - 1},
		{in(widest), layer(mostDay+1, 24992, api.UnitHours, 1, 1), 0, most}, {in(-widest), layer(mostDay-1, 68192, api.UnitHours, 1, 1), 0, most}, {europe(), layer(mostDay, mostRest+hour, api.UnitDays, 1, 1), 0, most},
	} {
		expectHandover(t, x.z, x.l, x.k, x.want, api.OK)
		expectHandover(t, x.z, x.l, x.k+1, 0, api.ErrNone)
		expectHandover(t, x.z, x.l, greatest, 0, api.ErrNone)
		expectShift(t, x.z, x.l, most, x.k)
		expectShift(t, x.z, x.l, x.want, x.k)
		expectShift(t, x.z, x.l, x.want-1, x.k-1)
		var list []int // MaxInstant is in no range
		if x.want < most {
			list = []int{x.want}
		}
		end := min(x.want+longest, most)
		expectHandovers(t, x.z, x.l, x.want, end, list, api.OK)
		expectHandovers(t, x.z, x.l, min(x.want+1, end), end, nil, api.OK)
		expectHandovers(t, x.z, x.l, min(max(x.want+1, most-longest), most), most, nil, api.OK)
	}
}

// TestNoHandovers has starts whose First does not exist.
func TestNoHandovers(t *testing.T) {
	for unit := range 3 {
		for _, x := range []struct {
			z           api.Zone
			day, second int
		}{
			{in(0), mostDay, mostRest + 1}, {in(0), mostDay, 86399}, {in(0), mostDay + 1, 0}, {in(0), 100000, 0}, {in(0), 100000, 86399}, {europe(), mostDay, mostRest + hour + 1}, {europe(), 99421, 0},
			{in(widest), mostDay + 1, 24993}, {in(widest), mostDay + 2, 0}, {in(widest), 100000, 0}, {in(-widest), mostDay - 1, 68193}, {in(-widest), mostDay, 0}, {in(-widest), mostDay, mostRest}, {in(1), mostDay, mostRest + 2}, {in(-1), mostDay, mostRest},
		} {
			for _, every := range []int{1, 2, 400} {
				l := layer(x.day, x.second, unit, every, 2)
				for _, k := range []int{0, 1, 2, 1000, most, greatest} {
					expectHandover(t, x.z, l, k, 0, api.ErrNone)
				}
				expectHandover(t, x.z, l, -1, 0, api.ErrRange)
				for _, at := range []int{0, 1, most - 1, most} {
					expectShift(t, x.z, l, at, -1)
				}
				expectHandovers(t, x.z, l, 0, longest, nil, api.OK)
				expectHandovers(t, x.z, l, most-longest, most, nil, api.OK)
				expectHandovers(t, x.z, l, most, most, nil, api.OK)
			}
		}
	}
}

// P10.3

func TestBoundsOfShift(t *testing.T) {
	for _, z := range []api.Zone{in(0), in(widest), in(-widest), europe(), manyTransitions()} {
		for _, l := range []api.Layer{layer(1, 0, api.UnitHours, 1, 1), layer(1, 0, api.UnitDays, 1, 2), layer(20541, 9000, api.UnitWeeks, 1, 3), layer(100000, 0, api.UnitDays, 1, 1), layer(100000, 0, api.UnitHours, 1, 1)} {
			for _, at := range []int{least, least + 1, -most, -day, -2, -1, most + 1, most + 2, most + day, greatest - 1, greatest} {
				expectNoShift(t, z, l, at, api.ErrRange)
			}
			expectShift(t, z, l, 0, -1)
			expectShift(t, z, l, 1, -1)
			for _, at := range []int{most - 1, most} {
				if _, e := recur.Shift(z, l, at); e != api.OK {
					t.Errorf("Shift(%v, %v, %d): %d", z, l, at, e)
				}
			}
		}
	}
}

func TestTurn(t *testing.T) {
	for unit := range 3 {
		step := []int{hour, day, week}[unit]
		for members := 1; members <= 13; members++ {
			l := layer(1, 0, unit, 1, members)
			for _, at := range []int{0, 1, day - 1} {
				if turn, e := recur.Turn(in(0), l, at); turn != -1 || e != api.OK {
					t.Errorf("Turn of %d members at %d = %d, %d", members, at, turn, e)
				}
			}
			for shift := range 40 {
				want := wantTurn(shift, members)
				for _, at := range []int{day + shift*step, day + shift*step + step - 1} {
					if turn, e := recur.Turn(in(0), l, at); turn != want || e != api.OK {
						t.Errorf("Turn of %d members at %d = %d, %d, want %d", members, at, turn, e, want)
					}
				}
			}
		}
	}
}

// TestTurnIsAnIndex has members whose numbers are other ones than their indices.
func TestTurnIsAnIndex(t *testing.T) {
	l := layer(1, 0, api.UnitDays, 1, 0)
	l.Members = []int{7, 7, -3, 7}
	for shift := range 9 {
		if turn, e := recur.Turn(in(0), l, day+shift*day); turn != shift%4 || e != api.OK {
			t.Errorf("Turn of shift %d = %d, %d", shift, turn, e)
		}
	}
}

// P10.4

func TestRanges(t *testing.T) {
	for _, z := range []api.Zone{in(0), in(widest), europe(), manyTransitions()} {
		for _, l := range []api.Layer{layer(1, 0, api.UnitDays, 1, 1), layer(20541, 9000, api.UnitHours, 1, 1), layer(20541, 9000, api.UnitWeeks, 1, 1), layer(100000, 0, api.UnitDays, 1, 1)} {
			for _, n := range []int{0, 1, 5, day, spring - 1, spring, spring + 1, most - 1, most} {
				expectHandovers(t, z, l, n, n, nil, api.OK) // empty, also at MaxInstant and at a handover
				for _, to := range []int{n - 1, n - day, -1, least, n + longest + 1, greatest} {
					expectHandovers(t, z, l, n, to, nil, api.ErrRange)
				}
				if _, e := recur.Handovers(z, l, n, n+longest); e != api.OK && n <= most-longest {
					t.Errorf("Handovers(%v, %v, %d, %d): %d", z, l, n, n+longest, e)
				}
			}
			for _, n := range []int{-1, -2, -longest, least, least + 1, most + 1, most + longest, greatest} {
				for _, to := range []int{least, n - 1, n, n + 1, -1, 0, 1, most - 1, most, most + 1, greatest} {
					expectHandovers(t, z, l, n, to, nil, api.ErrRange)
				}
			}
			expectHandovers(t, z, l, most-longest-1, most, nil, api.ErrRange)
			expectHandovers(t, z, l, most-5, most+1, nil, api.ErrRange)
			expectHandovers(t, z, l, 0, most, nil, api.ErrRange)
			expectHandovers(t, z, l, least, greatest, nil, api.ErrRange)
			expectHandovers(t, z, l, greatest, least, nil, api.ErrRange)
		}
	}
}

func TestBordersOfRanges(t *testing.T) {
	l := layer(10, 50, api.UnitDays, 1, 2)
	first := 10*day + 50
	for _, x := range []struct {
		from, to int
		want     []int
	}{
		{first, first + 1, apart(first, day, 1)}, {first, first, nil}, {first - 1, first, nil}, {first - 1, first + 1, apart(first, day, 1)}, {first + 1, first + 2, nil}, {first + 1, first + day, nil}, {first + 1, first + day + 1, apart(first+day, day, 1)}, {first, first + day, apart(first, day, 1)}, {first, first + day + 1, apart(first, day, 2)},
		{0, first, nil}, {0, first + 1, apart(first, day, 1)}, {0, 10 * day, nil}, {first - 2*day, first + 2*day, apart(first, day, 2)}, {0, 1, nil}, {0, 0, nil}, // before the start
		{first + 5*day, first + 9*day, apart(first+5*day, day, 4)}, {first + 5*day - 1, first + 9*day + 1, apart(first+5*day, day, 5)}, {first + 5*day + 1, first + 9*day - 1, apart(first+6*day, day, 3)},
		{0, longest, apart(first, day, 390)}, {first, first + longest, apart(first, day, 400)}, {first - 1, first - 1 + longest, apart(first, day, 400)}, {first + 1, first + 1 + longest, apart(first+day, day, 400)}, {first + 1, first + longest, apart(first+day, day, 399)},
		{most - longest, most, apart(first+99010*day+day, day, 400)}, {most - 1, most, nil}, {mostDay*day + 50, most, []int{mostDay*day + 50}}, {mostDay*day + 51, most, nil},
	} {
		expectHandovers(t, in(0), l, x.from, x.to, x.want, api.OK)
	}
	hours := layer(1, 0, api.UnitHours, 1, 1)
	expectHandovers(t, in(0), hours, day, day+longest, apart(day, hour, 9600), api.OK)
	expectHandovers(t, in(0), hours, day-1, day-1+longest, apart(day, hour, 9600), api.OK)
	expectHandovers(t, in(0), hours, day, day+longest+1, nil, api.ErrRange)
}

// TestRangesWithSeveralTransitions has all transitions of a year, and all handovers of 400 days.
func TestRangesWithSeveralTransitions(t *testing.T) {
	for _, z := range []api.Zone{europe(), manyTransitions()} {
		for _, second := range []int{0, 2*hour - 1, 2 * hour, 9000, 3*hour - 1, 3 * hour, 43200, 86399} {
			for unit := range 3 {
				l := layer(20300, second, unit, 1+2*unit, 3)
				all := handoversUntil(z, l, 20800*day)
				for _, from := range []int{20290 * day, 20300*day + second, 20345*day - hour, 20400 * day} {
					expectHandovers(t, z, l, from, from+longest, wantBetween(all, from, from+longest), api.OK)
				}
			}
		}
	}
}

// TestManyTransitions has layers in a zone with the most transitions, until its end.
func TestManyTransitions(t *testing.T) {
	z := manyTransitions()
	if l, e := zone.Transitions(z); len(l) != 640 || e != api.OK {
		t.Fatalf("Transitions: %d of them, %d", len(l), e)
	}
	l := layer(90, 9000, api.UnitWeeks, 8, 2)
	all := handoversUntil(z, l, most)
	for k := 0; k < len(all); k += 9 {
		expectHandover(t, z, l, k, all[k], api.OK)
		expectShift(t, z, l, all[k], k)
		expectShift(t, z, l, all[k]-1, k-1)
	}
	expectHandover(t, z, l, len(all), 0, api.ErrNone)
	for from := 0; from+longest <= most; from += 7 * longest {
		expectHandovers(t, z, l, from, from+longest, wantBetween(all, from, from+longest), api.OK)
	}
}

// TestNeighbours is the consequence that a range and the next one have the handovers of both together.
func TestNeighbours(t *testing.T) {
	l := layer(20530, 9000, api.UnitDays, 1, 2)
	whole, _ := recur.Handovers(europe(), l, spring-20*day, spring+20*day)
	for at := spring - 2*day; at <= spring+2*day; at += 600 {
		before, _ := recur.Handovers(europe(), l, spring-20*day, at)
		behind, _ := recur.Handovers(europe(), l, at, spring+20*day)
		if !slices.Equal(slices.Concat(before, behind), whole) {
			t.Errorf("Handovers until and from %d on: %v, %v", at, before, behind)
		}
	}
}

// TestAscend is the consequence that handovers ascend, that the one of Shift is at most t, and the next one greater.
func TestAscend(t *testing.T) {
	for _, l := range []api.Layer{layer(18000, 9000, api.UnitDays, 1, 1), layer(18000, 7200, api.UnitWeeks, 2, 1), layer(18000, 10799, api.UnitHours, 5, 1)} {
		before := -1
		for k := range 4500 {
			at, e := recur.Handover(europe(), l, k)
			if e != api.OK || at <= before {
				t.Errorf("Handover(%v, %d) = %d, %d, behind %d", l, k, at, e, before)
			}
			before = at
		}
		for at := spring - 3*day; at < spring+3*day; at += 555 {
			k, _ := recur.Shift(europe(), l, at)
			this, _ := recur.Handover(europe(), l, k)
			next, _ := recur.Handover(europe(), l, k+1)
			if this > at || next <= at {
				t.Errorf("Shift(%v, %d) = %d, from %d until %d", l, at, k, this, next)
			}
		}
	}
}

// TestArguments is rule R2: arguments are not changed, and results are memory of their own.
func TestArguments(t *testing.T) {
	z, l := europe(), layer(20530, 9000, api.UnitDays, 1, 3)
	l.Members = []int{4, 5, 6}
	l.Windows = []api.Window{{From: 1, To: 2}}
	y, m := clone(z, l)
	first, _ := recur.Handovers(z, l, spring-9*day, spring+9*day)
	second, _ := recur.Handovers(z, l, spring-9*day, spring+9*day)
	kept := slices.Clone(first)
	for i := range second {
		second[i] = -7
	}
	if !slices.Equal(first, kept) {
		t.Errorf("Handovers is changed through the result of another call: %v", first)
	}
	third := append(first[:3:3], -1)
	if again, _ := recur.Handovers(z, l, spring-9*day, spring+9*day); !slices.Equal(again, kept) || third[3] != -1 {
		t.Errorf("Handovers again: %v", again)
	}
	recur.Check(z, l)
	recur.Handover(z, l, 5)
	recur.Shift(z, l, spring)
	recur.Turn(z, l, spring)
	if !sameArguments(z, l, y, m) {
		t.Errorf("the arguments are changed: %v, %v", z, l)
	}
}
