package week_test

import (
	"math"
	"slices"
	"testing"

	"pagewatch/api"
	"pagewatch/span"
	"pagewatch/week"
	"pagewatch/zone"
)

const (
	hour    = 3600
	day     = 86400
	whole   = 604800 // the seconds of a week
	most    = 1 << 33
	longest = 400 * day
	widest  = 64800
	monday  = 4 * day    // 1970-01-05 0:00 UTC, the first Monday of all instants
	spring  = 1774746000 // 2026-03-29 1:00 UTC, a Sunday
	autumn  = 1792890000 // 2026-10-25 1:00 UTC, a Sunday
	may     = 957139200  // 2000-05-01 0:00 UTC, a Monday
)

// windows returns the windows whose numbers are given in pairs.
func windows(numbers ...int) []api.Window {
	var l []api.Window
	for i := 0; i+1 < len(numbers); i += 2 {
		l = append(l, api.Window{From: numbers[i], To: numbers[i+1]})
	}
	return l
}

// spans returns the spans whose numbers are given in pairs.
func spans(numbers ...int) []api.Span {
	var l []api.Span
	for i := 0; i+1 < len(numbers); i += 2 {
		l = append(l, api.Span{From: numbers[i], To: numbers[i+1]})
	}
	return l
}

// apart returns n windows of 5 seconds, from a second on, with 5 seconds between them.
func apart(n, second int) []api.Window {
	var l []api.Window
	for i := range n {
		l = append(l, api.Window{From: second + 10*i, To: second + 10*i + 5})
	}
	return l
}

func in(offset int, rules ...api.YearRule) api.Zone {
	return api.Zone{Name: "z", Offset: offset, Rules: rules}
}

// europe has an hour more in summer, from 2020 to 2030.
func europe() api.Zone {
	return in(hour,
		api.YearRule{From: 2020, To: 2030, Month: 3, Week: 5, Weekday: 6, Second: 2 * hour, Offset: 2 * hour},
		api.YearRule{From: 2020, To: 2030, Month: 10, Week: 5, Weekday: 6, Second: 3 * hour, Offset: hour})
}

// on returns a rule for a weekday of the first week of May 2000, which began on a Monday.
func on(weekday, second, offset int) api.YearRule {
	return api.YearRule{From: 2000, To: 2000, Month: 5, Week: 1, Weekday: weekday, Second: second, Offset: offset}
}

// atStart returns a rule for the day 0, a Thursday.
func atStart(second, offset int) api.YearRule {
	return api.YearRule{From: 1970, To: 1970, Month: 1, Week: 1, Weekday: 3, Second: second, Offset: offset}
}

// invalidZones has a zone for each error of zone.Check.
func invalidZones() []api.Zone {
	return []api.Zone{
		in(widest + 1), in(-widest - 1), in(math.MinInt), in(math.MaxInt), in(0, api.YearRule{}), in(0, on(7, 0, 60)),
		in(0, slices.Repeat([]api.YearRule{on(0, 0, 0)}, 17)...), in(0, on(0, 0, 60), on(1, 0, 0)), in(60, atStart(0, 0)),
	}
}

// wrongWindows has lists of windows that are not right, for each reason.
func wrongWindows() [][]api.Window {
	return [][]api.Window{
		windows(5, 5), windows(6, 5), windows(-1, 5), windows(0, whole+1), windows(math.MinInt, 5), windows(5, math.MaxInt), windows(math.MaxInt, math.MinInt), windows(0, 0), windows(whole, whole),
		windows(5, 7, 6, 9), windows(5, 7, 5, 7), windows(9, 10, 5, 6), windows(0, whole, 5, 6), windows(5, 6, 9, 9), windows(5, 6, 6, whole+1), apart(15, 0), slices.Repeat(windows(0, whole), 15),
	}
}

// mixedNumbers returns a function whose results are less than n and look as if by chance, but are the same in each run.
func mixedNumbers() func(n int) int {
	state := uint64(1)
	return func(n int) int {
		state = state*6364136223846793005 + 1442695040888963407
		return int((state >> 24) % uint64(n))
	}
}

// The following functions say what the definitions say, second by second.

// wantError returns the first error of windows: each window has two kinds of them.
func wantError(l []api.Window) api.Errno {
	if len(l) > 14 {
		return api.ErrLimit
	}
	for i, w := range l {
		if !(0 <= w.From && w.From < w.To && w.To <= whole) {
			return api.ErrRange
		}
		if i > 0 && !(w.From >= l[i-1].To) {
			return api.ErrOrder
		}
	}
	return api.OK
}

// wantSecond returns the second of the week of an instant in a zone with transitions; Monday 0:00 was three days before 1970.
func wantSecond(z api.Zone, l []api.Transition, t int) int {
	offset := z.Offset
	for _, x := range l {
		if x.At <= t {
			offset = x.Offset
		}
	}
	return (t + offset + 3*day) % whole
}

// inOne reports whether a second of the week is in one of right windows.
func inOne(l []api.Window, second int) bool {
	found := false
	for _, w := range l {
		found = found || w.From <= second && second < w.To
	}
	return found
}

// wantTimes returns the set of instants of right windows, where all borders lie at multiples of step from from on.
func wantTimes(z api.Zone, l []api.Window, from, to, step int) []api.Span {
	transitions, _ := zone.Transitions(z)
	var set []api.Span
	open := false
	for t := from; t < to; t += step {
		held := inOne(l, wantSecond(z, transitions, t))
		if held && !open {
			set = append(set, api.Span{From: t})
		}
		if held {
			set[len(set)-1].To = t + step
		}
		open = held
	}
	return set
}

// expectTimes compares Times with what it must return.
func expectTimes(t *testing.T, z api.Zone, l []api.Window, from, to int, want []api.Span, wantError api.Errno) {
	t.Helper()
	got, e := week.Times(z, l, from, to)
	if !slices.Equal(got, want) || e != wantError {
		t.Errorf("Times(%v, %v, %d, %d) = %v, %d, want %v, %d", z, l, from, to, got, e, want, wantError)
	}
	if e == api.OK && !span.Valid(got) {
		t.Errorf("Times(%v, %v, %d, %d) = %v, which is no set", z, l, from, to, got)
	}
}

// expectEach compares Times, In and Second with the definitions for each second of a range.
func expectEach(t *testing.T, z api.Zone, l []api.Window, from, to int) {
	t.Helper()
	expectTimes(t, z, l, from, to, wantTimes(z, l, from, to, 1), api.OK)
	transitions, _ := zone.Transitions(z)
	for n := from; n < to; n++ {
		second := wantSecond(z, transitions, n)
		if got, e := week.Second(z, n); got != second || e != api.OK {
			t.Fatalf("Second(%v, %d) = %d, %d, want %d", z, n, got, e, second)
		}
		if got := week.In(z, l, n); got != inOne(l, second) {
			t.Fatalf("In(%v, %v, %d) = %v", z, l, n, got)
		}
	}
}

// expectWindows compares the functions of windows alone with what they must return.
func expectWindows(t *testing.T, l []api.Window, check api.Errno, length int, others []api.Window, inverted api.Errno) {
	t.Helper()
	if e := week.Check(l); e != check {
		t.Errorf("Check(%v) = %d, want %d", l, e, check)
	}
	if n := week.Length(l); n != length {
		t.Errorf("Length(%v) = %d, want %d", l, n, length)
	}
	if got, e := week.Invert(l); !slices.Equal(got, others) || e != inverted {
		t.Errorf("Invert(%v) = %v, %d, want %v, %d", l, got, e, others, inverted)
	}
}

// expectWrong compares all functions with what they must return for windows that are not right.
func expectWrong(t *testing.T, l []api.Window, check api.Errno) {
	t.Helper()
	expectWindows(t, l, check, 0, nil, api.ErrInvalid)
	expectTimes(t, in(0), l, 0, whole, nil, api.ErrInvalid)
	expectTimes(t, in(0), l, 5, 5, nil, api.ErrInvalid)
	for n := range 8 {
		if week.In(in(0), l, monday+n) || week.In(in(0), l, monday+whole-n) {
			t.Errorf("In(%v) of second %d is true", l, n)
		}
	}
}

// P5.1

func TestNumberOfWindows(t *testing.T) {
	for n := range 40 {
		l, touching := apart(n, 1), slices.Repeat(windows(0, 1), n)
		for i := range touching {
			touching[i] = api.Window{From: i, To: i + 1}
		}
		if n > 14 {
			expectWrong(t, l, api.ErrLimit)
			expectWrong(t, touching, api.ErrLimit)
			continue
		}
		if e := week.Check(l); e != api.OK {
			t.Errorf("Check of %d windows = %d", n, e)
		}
		if e := week.Check(touching); e != api.OK {
			t.Errorf("Check of %d windows that touch = %d", n, e)
		}
	}
	expectWrong(t, make([]api.Window, 10000), api.ErrLimit)
}

func TestBoundsOfWindow(t *testing.T) {
	numbers := []int{math.MinInt, math.MinInt + 1, -whole, -2, -1, 0, 1, 2, day, whole - 2, whole - 1, whole, whole + 1, 2 * whole, math.MaxInt - 1, math.MaxInt}
	for _, from := range numbers {
		for _, to := range numbers {
			l := windows(from, to)
			if from < 0 || from >= to || to > whole {
				expectWrong(t, l, api.ErrRange)
				expectWrong(t, append(windows(0, 1), l...), api.ErrRange)
				expectWrong(t, append(l, windows(0, 1)...), api.ErrRange)
				continue
			}
			if e := week.Check(l); e != api.OK {
				t.Errorf("Check(%v) = %d", l, e)
			}
		}
	}
}

func TestOrderOfWindows(t *testing.T) {
	for i, x := range []struct {
		l    []api.Window
		want api.Errno
	}{
		{nil, api.OK}, {windows(), api.OK}, {windows(0, whole), api.OK}, {windows(0, 1, whole-1, whole), api.OK},
		{windows(5, 7, 7, 9), api.OK}, {windows(5, 7, 8, 9), api.OK}, {windows(0, day, day, 2*day, 2*day, whole), api.OK}, // they may touch
		{windows(5, 7, 6, 9), api.ErrOrder}, {windows(5, 7, 5, 7), api.ErrOrder}, {windows(5, 9, 6, 7), api.ErrOrder}, {windows(5, 7, 4, 9), api.ErrOrder}, {windows(0, whole, 0, whole), api.ErrOrder}, // overlap
		{windows(8, 9, 5, 7), api.ErrOrder}, {windows(7, 9, 5, 7), api.ErrOrder}, {windows(1, 2, 8, 9, 5, 7), api.ErrOrder}, {windows(1, 2, 8, 9, 0, 1), api.ErrOrder}, {windows(8, 9, 5, 7, 10, 11), api.ErrOrder}, // one before the other
		{windows(9, 10, 5, 4), api.ErrRange}, {windows(9, 10, 5, 5), api.ErrRange}, {windows(9, 10, -1, 5), api.ErrRange}, {windows(9, 10, 5, whole+1), api.ErrRange}, // the range before the order of the same window
		{windows(9, 10, 5, 6, 5, 4), api.ErrOrder}, {windows(9, 10, 5, 6, -1, 6), api.ErrOrder}, {windows(5, 4, 3, 4), api.ErrRange}, {windows(9, 8, 9, 10, 5, 6), api.ErrRange}, // window by window
		{append(apart(14, 0), windows(5, 4)...), api.ErrLimit}, {append(apart(14, 0), windows(0, 5)...), api.ErrLimit}, {slices.Repeat(windows(5, 4), 15), api.ErrLimit}, // the limit first
		{append(apart(13, 0), windows(5, 4)...), api.ErrRange}, {append(apart(13, 0), windows(0, 5)...), api.ErrOrder}, {append(apart(13, 0), windows(125, 126)...), api.OK}, {append(apart(13, 0), windows(124, 126)...), api.ErrOrder},
	} {
		if e := week.Check(x.l); e != x.want {
			t.Errorf("%d: Check(%v) = %d, want %d", i, x.l, e, x.want)
		}
		if x.want != api.OK {
			expectWrong(t, x.l, x.want)
		}
	}
}

// TestSmallLists goes through all lists of up to three windows with a few numbers at both ends of the week.
func TestSmallLists(t *testing.T) {
	numbers := []int{-1, 0, 1, 2, whole - 1, whole, whole + 1}
	var single []api.Window
	for _, from := range numbers {
		for _, to := range numbers {
			single = append(single, api.Window{From: from, To: to})
		}
	}
	expectSmall(t, nil)
	for _, a := range single {
		expectSmall(t, []api.Window{a})
		for _, b := range single {
			expectSmall(t, []api.Window{a, b})
			for _, c := range single {
				expectSmall(t, []api.Window{a, b, c})
			}
		}
	}
}

// expectSmall compares the functions of windows for a list whose borders are those between the parts of the week listed here.
func expectSmall(t *testing.T, l []api.Window) {
	t.Helper()
	if e := wantError(l); e != api.OK {
		expectWindows(t, l, e, 0, nil, api.ErrInvalid)
		return
	}
	length := 0
	var others []api.Window
	for _, part := range windows(0, 1, 1, 2, 2, whole-1, whole-1, whole) {
		last := len(others) - 1
		switch {
		case inOne(l, part.From):
			length += part.To - part.From
		case last >= 0 && others[last].To == part.From:
			others[last].To = part.To
		default:
			others = append(others, part)
		}
	}
	expectWindows(t, l, api.OK, length, others, api.OK)
}

// P5.2

func TestSecondOfKnownInstants(t *testing.T) {
	for i, x := range []struct {
		z       api.Zone
		t, want int
	}{
		{in(0), 0, 3 * day}, {in(0), 378000, 9 * hour}, {in(0), day - 1, 4*day - 1}, {in(0), day, 4 * day},
		{in(0), monday, 0}, {in(0), monday - 1, whole - 1}, {in(0), monday + whole, 0}, {in(0), most, 2*day + 46592}, {in(0), most - 1, 2*day + 46591},
		{in(-1), 0, 3*day - 1}, {in(-hour), 0, 2*day + 23*hour}, {in(-widest), 0, 2*day + 6*hour}, {in(-widest), widest, 3 * day}, {in(-widest), widest - 1, 3*day - 1}, // the local day -1
		{in(widest), 0, 3*day + widest}, {in(widest), monday - widest, 0}, {in(-widest), monday + widest, 0}, {in(widest), most, 3*day + 24992}, {in(-widest), most, day + 68192},
		{europe(), spring - 1, 6*day + 2*hour - 1}, {europe(), spring, 6*day + 3*hour}, {europe(), autumn - 1, 6*day + 3*hour - 1}, {europe(), autumn, 6*day + 2*hour},
	} {
		if got, e := week.Second(x.z, x.t); got != x.want || e != api.OK {
			t.Errorf("%d: Second(%v, %d) = %d, %d, want %d", i, x.z, x.t, got, e, x.want)
		}
	}
}

func TestSecondOfEachDay(t *testing.T) {
	for n := range 20 {
		for _, second := range []int{0, 1, 43200, day - 1} {
			want := (n+3)%7*day + second
			if got, e := week.Second(in(0), n*day+second); got != want || e != api.OK {
				t.Errorf("Second of day %d, %d = %d, %d, want %d", n, second, got, e, want)
			}
		}
	}
}

func TestErrorsOfSecond(t *testing.T) {
	expect := func(z api.Zone, n int, want api.Errno) {
		t.Helper()
		if got, e := week.Second(z, n); got != 0 || e != want {
			t.Errorf("Second(%v, %d) = %d, %d, want %d", z, n, got, e, want)
		}
		if week.In(z, windows(0, whole), n) {
			t.Errorf("In(%v, the whole week, %d) is true", z, n)
		}
	}
	beyond := []int{-1, -2, -day, math.MinInt, most + 1, most + whole, math.MaxInt}
	for _, n := range beyond {
		expect(in(0), n, api.ErrRange)
		expect(in(widest), n, api.ErrRange)
		expect(in(-widest), n, api.ErrRange)
		expect(europe(), n, api.ErrRange)
	}
	for _, z := range invalidZones() {
		for _, n := range append(beyond, 0, 1, monday, most) {
			expect(z, n, api.ErrInvalid)
		}
	}
}

func TestIn(t *testing.T) {
	office := windows(9*hour, 17*hour, day+9*hour, day+17*hour)
	for i, x := range []struct {
		z    api.Zone
		l    []api.Window
		t    int
		want bool
	}{
		{in(0), office, 378000, true}, {in(0), office, 377999, false}, {in(0), office, 406799, true}, {in(0), office, 406800, false}, // each bound
		{in(0), office, 378000 + day, true}, {in(0), office, 377999 + day, false}, {in(0), office, 406799 + day, true}, {in(0), office, 406800 + day, false},
		{in(0), office, 378000 + 2*day, false}, {in(0), office, 378000 - day, false}, {in(0), office, 378000 + 900*whole, true}, {in(hour), office, 374400, true}, {in(hour), office, 374399, false}, {in(hour), office, 403200, false},
		{in(0), windows(5, 7, 7, 9), monday + 6, true}, {in(0), windows(5, 7, 7, 9), monday + 7, true}, {in(0), windows(5, 7, 7, 9), monday + 8, true}, {in(0), windows(5, 7, 7, 9), monday + 9, false}, {in(0), windows(5, 7, 8, 9), monday + 7, false}, // windows that touch, and a gap
		{in(0), nil, monday, false}, {in(0), nil, 0, false}, {in(0), windows(), most, false},
		{in(0), windows(0, whole), 0, true}, {in(0), windows(0, whole), most, true}, {in(-1), windows(0, whole), 0, true}, {in(0), windows(0, whole), monday, true}, {in(0), windows(0, whole), monday - 1, true},
		{in(0), windows(0, 1), monday, true}, {in(0), windows(0, 1), monday + 1, false}, {in(0), windows(whole-1, whole), monday - 1, true}, {in(0), windows(whole-1, whole), monday, false}, {in(0), windows(whole-1, whole), monday - 2, false},
		{in(0), apart(14, 0), monday + 134, true}, {in(0), apart(14, 0), monday + 135, false}, {in(0), apart(14, 0), monday, true},
		{europe(), windows(6*day+2*hour, 6*day+3*hour), spring - 1, false}, {europe(), windows(6*day+2*hour, 6*day+3*hour), spring, false}, {europe(), windows(6*day+2*hour, 6*day+3*hour), autumn - hour, true}, {europe(), windows(6*day+2*hour, 6*day+3*hour), autumn + hour - 1, true}, {europe(), windows(6*day+2*hour, 6*day+3*hour), autumn + hour, false},
	} {
		if got := week.In(x.z, x.l, x.t); got != x.want {
			t.Errorf("%d: In(%v, %v, %d) = %v", i, x.z, x.l, x.t, got)
		}
	}
}

func TestInOfInvalid(t *testing.T) {
	for _, l := range wrongWindows() {
		for _, n := range []int{0, monday, monday + 5, monday + 6, monday + 9, monday + whole - 1} {
			if week.In(in(0), l, n) {
				t.Errorf("In(%v, %d) is true", l, n)
			}
		}
	}
}

// P5.3

func TestTimesOfOneOffset(t *testing.T) {
	office := windows(9*hour, 17*hour)
	for _, x := range []struct {
		z        api.Zone
		l        []api.Window
		from, to int
		want     []api.Span
	}{
		{in(0), office, 0, 2 * whole, spans(378000, 406800, 982800, 1011600)},
		{in(0), office, 400000, 400001, spans(400000, 400001)}, {in(0), office, 377999, 378000, nil}, {in(0), office, 377999, 378001, spans(378000, 378001)}, {in(0), office, 406799, 406801, spans(406799, 406800)}, {in(0), office, 406800, 982800, nil}, {in(0), office, 406800, 982801, spans(982800, 982801)}, // each bound
		{in(hour), office, 0, whole, spans(374400, 403200)}, {in(-hour), office, 0, whole, spans(381600, 410400)}, {in(widest), office, 0, whole, spans(monday-9*hour, monday-hour)},
		{in(0), windows(0, day, day, 2*day), 0, whole, spans(monday, monday+2*day)}, {in(0), windows(5, 6, 6, 7, 7, 9, 10, 11), 0, whole, spans(monday+5, monday+9, monday+10, monday+11)}, // windows that touch
		{in(0), windows(0, day, 6*day, whole), 0, whole, spans(3*day, 5*day)}, {in(0), windows(0, day, 6*day, whole), 4 * day, 4*day + whole, spans(4*day, 5*day, 4*day+6*day, 4*day+whole)}, // from Sunday into Monday
		{in(0), windows(0, 1), 0, 3 * whole, spans(monday, monday+1, monday+whole, monday+whole+1, monday+2*whole, monday+2*whole+1)}, {in(0), windows(whole-1, whole), 0, whole, spans(monday-1, monday)}, {in(0), windows(whole-1, whole), monday, monday + whole, spans(monday+whole-1, monday+whole)},
		{in(0), nil, 0, longest, nil}, {in(0), windows(), most - 5, most, nil}, {in(0), windows(0, whole), 5, 5 + longest, spans(5, 5+longest)}, {in(0), windows(0, whole), 5, 6, spans(5, 6)}, {in(widest), windows(0, 5, 5, whole), 0, longest, spans(0, longest)},
		{in(-1), windows(3*day-1, 3*day), 0, whole, spans(0, 1)}, {in(-1), windows(3*day, 3*day+1), 0, whole, spans(1, 2)}, {in(-widest), windows(2*day, 3*day), 0, whole, spans(0, widest, whole-6*hour, whole)}, {in(-widest), windows(2*day+6*hour-5, 2*day+6*hour+5), 0, whole, spans(0, 5, whole-5, whole)}, // the local day -1
		{in(0), windows(2*day, 3*day), most - 10, most, spans(most-10, most)}, {in(0), windows(2*day+46591, 3*day), most - 10, most, spans(most-1, most)}, {in(0), windows(2*day+46592, 3*day), most - 10, most, nil}, {in(widest), windows(0, whole), most - longest, most, spans(most-longest, most)},
	} {
		expectTimes(t, x.z, x.l, x.from, x.to, x.want, api.OK)
	}
}

func TestRanges(t *testing.T) {
	l := windows(0, whole)
	for _, z := range []api.Zone{in(0), in(widest), in(-widest), europe()} {
		for _, n := range []int{0, 1, 5, monday, spring - 1, spring, spring + 1, most - 1, most} {
			expectTimes(t, z, l, n, n, nil, api.OK) // empty, also at MaxInstant
			expectTimes(t, z, l, n, n-1, nil, api.ErrRange)
			expectTimes(t, z, l, n, -1, nil, api.ErrRange)
			expectTimes(t, z, l, n, math.MinInt, nil, api.ErrRange)
			expectTimes(t, z, l, n, math.MaxInt, nil, api.ErrRange)
			expectTimes(t, z, l, n, n+longest+1, nil, api.ErrRange)
			if n < most {
				expectTimes(t, z, l, n, n+1, spans(n, n+1), api.OK)
			}
			if n <= most-longest {
				expectTimes(t, z, l, n, n+longest, spans(n, n+longest), api.OK)
			}
		}
		for _, n := range []int{-1, -2, -longest, math.MinInt, math.MinInt + 1, most + 1, most + longest, math.MaxInt} {
			for _, to := range []int{math.MinInt, n - 1, n, n + 1, -1, 0, 1, most - 1, most, most + 1, math.MaxInt} {
				expectTimes(t, z, l, n, to, nil, api.ErrRange)
			}
		}
		expectTimes(t, z, l, most-longest, most, spans(most-longest, most), api.OK)
		expectTimes(t, z, l, most-longest-1, most, nil, api.ErrRange)
		expectTimes(t, z, l, most-5, most+1, nil, api.ErrRange)
		expectTimes(t, z, l, 0, most, nil, api.ErrRange)
		expectTimes(t, z, l, math.MinInt, math.MaxInt, nil, api.ErrRange)
	}
}

func TestOrderOfErrorsOfTimes(t *testing.T) {
	for _, n := range [][2]int{{0, whole}, {5, 5}, {-1, 5}, {5, 4}, {0, longest + 1}, {most, most + 1}, {math.MinInt, math.MaxInt}} {
		for _, z := range invalidZones() {
			expectTimes(t, z, windows(0, whole), n[0], n[1], nil, api.ErrInvalid)
			expectTimes(t, z, nil, n[0], n[1], nil, api.ErrInvalid)
			expectTimes(t, z, windows(5, 5), n[0], n[1], nil, api.ErrInvalid)
		}
		for _, l := range wrongWindows() {
			expectTimes(t, in(0), l, n[0], n[1], nil, api.ErrInvalid)
			expectTimes(t, europe(), l, n[0], n[1], nil, api.ErrInvalid)
		}
	}
	expectTimes(t, in(0), nil, -1, 5, nil, api.ErrRange)
	expectTimes(t, in(0), nil, 0, longest+1, nil, api.ErrRange)
}

func TestTimesOfTransitions(t *testing.T) {
	sunday := func(from, to int) []api.Window { return windows(6*day+from, 6*day+to) }
	for _, x := range []struct {
		l                  []api.Window
		inSpring, inAutumn []api.Span
	}{
		// The local times from 2:00 to 3:00 are leapt over in spring, and repeated in autumn.
		{l: sunday(0, day), inSpring: spans(spring-2*hour, spring+21*hour), inAutumn: spans(autumn-3*hour, autumn+22*hour)},
		{l: sunday(2*hour, 3*hour), inSpring: nil, inAutumn: spans(autumn-hour, autumn+hour)},
		{l: sunday(9000, 9600), inSpring: nil, inAutumn: spans(autumn-1800, autumn-1200, autumn+1800, autumn+2400)},
		{l: sunday(2*hour, 9000), inSpring: nil, inAutumn: spans(autumn-hour, autumn-1800, autumn, autumn+1800)},
		{l: sunday(9000, 3*hour), inSpring: nil, inAutumn: spans(autumn-1800, autumn, autumn+1800, autumn+hour)},
		{l: sunday(hour, 2*hour), inSpring: spans(spring-hour, spring), inAutumn: spans(autumn-2*hour, autumn-hour)},
		{l: sunday(3*hour, 4*hour), inSpring: spans(spring, spring+hour), inAutumn: spans(autumn+hour, autumn+2*hour)},
		{l: sunday(hour, 9000), inSpring: spans(spring-hour, spring), inAutumn: spans(autumn-2*hour, autumn-1800, autumn, autumn+1800)},
		{l: sunday(9000, 4*hour), inSpring: spans(spring, spring+hour), inAutumn: spans(autumn-1800, autumn, autumn+1800, autumn+2*hour)},
		{l: sunday(hour, 4*hour), inSpring: spans(spring-hour, spring+hour), inAutumn: spans(autumn-2*hour, autumn+2*hour)},
		{l: windows(6*day+hour, 6*day+2*hour, 6*day+3*hour, 6*day+4*hour), inSpring: spans(spring-hour, spring+hour), inAutumn: spans(autumn-2*hour, autumn-hour, autumn+hour, autumn+2*hour)},
		{l: windows(6*day+hour, 6*day+9000, 6*day+9600, 6*day+4*hour), inSpring: spans(spring-hour, spring+hour), inAutumn: spans(autumn-2*hour, autumn-1800, autumn-1200, autumn+1800, autumn+2400, autumn+2*hour)},
		{l: windows(0, whole), inSpring: spans(spring-2*day, spring+2*day), inAutumn: spans(autumn-2*day, autumn+2*day)},
		{l: nil},
	} {
		expectTimes(t, europe(), x.l, spring-2*day, spring+2*day, x.inSpring, api.OK)
		expectTimes(t, europe(), x.l, autumn-2*day, autumn+2*day, x.inAutumn, api.OK)
		// A range that ends or begins at the transition.
		before, _ := span.Clip(x.inAutumn, autumn-2*day, autumn)
		behind, _ := span.Clip(x.inAutumn, autumn, autumn+2*day)
		expectTimes(t, europe(), x.l, autumn-2*day, autumn, before, api.OK)
		expectTimes(t, europe(), x.l, autumn, autumn+2*day, behind, api.OK)
	}
}

func TestTransitionsAtBordersOfWeeks(t *testing.T) {
	l := windows(0, hour, 3*day, 4*day, 6*day+23*hour, whole)
	edges := windows(0, 10, whole-10, whole)
	for _, x := range []struct {
		z  api.Zone
		at int // the transition
	}{
		{in(0, on(0, 0, hour)), may}, {in(0, on(0, 5, 30)), may + 5}, // from Monday into Monday
		{in(hour, on(0, 0, 0)), may - hour}, {in(30, on(0, 5, 0)), may - 25}, {in(hour, on(0, 1800, 0)), may - 1800}, // from Monday back into Sunday
		{in(0, on(6, day-1, 30)), may + 7*day - 1}, {in(0, on(6, day-hour, 2*hour)), may + 7*day - hour}, {in(0, on(6, day-20, 20)), may + 7*day - 20}, // from Sunday into Monday
		{in(40, on(6, day-5, 0)), may + 7*day - 45}, {in(0, on(0, 0, -20)), may}, {in(0, on(6, day-1, -20)), may + 7*day - 1}, // from Sunday back into Sunday
		{in(40000, on(0, 10, -46000)), may - 39990}, {in(-46000, on(6, day-10, 40000)), may + 7*day - 10 + 46000}, // nearly a day
	} {
		expectTransition(t, x.z, x.at)
		expectEach(t, x.z, l, x.at-200, x.at+200)
		expectEach(t, x.z, edges, x.at-200, x.at+200)
		expectTimes(t, x.z, l, x.at-2*day, x.at+2*day, wantTimes(x.z, l, x.at-2*day, x.at+2*day, 1), api.OK)
		expectTimes(t, x.z, edges, x.at-2*day, x.at+2*day, wantTimes(x.z, edges, x.at-2*day, x.at+2*day, 1), api.OK)
	}
}

// expectTransition makes sure that a zone of a test has a transition where the test is about it.
func expectTransition(t *testing.T, z api.Zone, at int) {
	t.Helper()
	if l, e := zone.Transitions(z); e != api.OK || !slices.ContainsFunc(l, func(x api.Transition) bool { return x.At == at }) {
		t.Fatalf("Transitions(%v) = %v, %d, without one at %d", z, l, e, at)
	}
}

// TestWindowsNearTransitions moves a window and a transition against each other.
func TestWindowsNearTransitions(t *testing.T) {
	const noon = day / 2
	for _, change := range []int{-9, -5, -1, 1, 5, 9} {
		z := in(0, on(1, noon, change))
		at := may + day + noon
		expectTransition(t, z, at)
		for from := day + noon - 12; from < day+noon+12; from++ {
			for _, length := range []int{1, 2, 5, 9, 10} {
				one := windows(from, from+length)
				expectTimes(t, z, one, at-30, at+30, wantTimes(z, one, at-30, at+30, 1), api.OK)
				two := append(one, api.Window{From: from + length + 3, To: from + length + 5})
				expectEach(t, z, two, at-15, at+15)
			}
		}
	}
}

func TestRangesNearTransitions(t *testing.T) {
	const noon = day / 2
	for _, change := range []int{-5, 5} {
		z := in(0, on(1, noon, change))
		at := may + day + noon
		for _, l := range [][]api.Window{windows(day+noon-3, day+noon+2), windows(day+noon-8, day+noon-2, day+noon+1, day+noon+7), windows(0, whole), nil} {
			for from := at - 10; from <= at+10; from++ {
				for to := from; to <= at+10; to++ {
					expectTimes(t, z, l, from, to, wantTimes(z, l, from, to, 1), api.OK)
				}
			}
		}
	}
}

func TestFirstAndLastInstants(t *testing.T) {
	around := windows(2*day+6*hour-3, 2*day+6*hour+3, 3*day-5, 3*day-2, 3*day, 3*day+2, 3*day+59, 3*day+62, 3*day+widest-3, 3*day+widest+3)
	// Among them are zones with a transition at the instant 0 or soon behind it.
	for _, z := range []api.Zone{in(0), in(1), in(-1), in(60), in(-60), in(widest), in(-widest), in(0, atStart(0, 60)), in(60, atStart(60, 0)), in(-60, atStart(0, 2)), in(0, atStart(3, -3)), in(0, atStart(0, -60)), in(-widest, atStart(0, 0))} {
		expectEach(t, z, around, 0, 100)
		expectTimes(t, z, around, 0, whole, wantTimes(z, around, 0, whole, 1), api.OK)
	}
	end := windows(day+68189, day+68195, 2*day+46580, 2*day+46585, 2*day+46590, 2*day+46594, 3*day+24989, 3*day+24995)
	for _, z := range []api.Zone{in(0), in(1), in(-1), in(widest), in(-widest)} {
		expectEach(t, z, end, most-100, most)
		expectTimes(t, z, end, most-whole, most, wantTimes(z, end, most-whole, most, 1), api.OK)
	}
}

// TestWeeksOfLength is the consequence that a week without a transition has Length seconds.
func TestWeeksOfLength(t *testing.T) {
	l := windows(5, 100, 100, 200, 2*day, 3*day+7, whole-9, whole)
	for _, x := range []struct {
		z    api.Zone
		from int
	}{
		{in(0), 0}, {in(0), monday}, {in(0), 123456789}, {in(-widest), 0}, {in(widest), most - whole}, {europe(), spring}, {europe(), spring - whole}, {europe(), autumn - whole}, {europe(), autumn},
	} {
		set, e := week.Times(x.z, l, x.from, x.from+whole)
		if n := span.Length(set); e != api.OK || n != week.Length(l) {
			t.Errorf("Times from %d on in %v: %d seconds, %d, want %d", x.from, x.z, n, e, week.Length(l))
		}
	}
	sunday := windows(6*day, whole)
	for from, want := range map[int]int{spring - 3*day: 82800, autumn - 3*day: 90000, spring + day: day} {
		if set, e := week.Times(europe(), sunday, from, from+whole); e != api.OK || span.Length(set) != want {
			t.Errorf("Times from %d on: %v, %d, want %d seconds", from, set, e, want)
		}
	}
}

// TestManySpans has more than a thousand spans: transitions repeat all windows on many Mondays. More than MaxSpans cannot be reached: 400 days have at most 58 Mondays, and each of their transitions, a week apart or more, repeats 14 windows at most.
func TestManySpans(t *testing.T) {
	const step = 9000
	z := in(6 * step)
	add := func(month, nth, weekday, second, offset int) {
		z.Rules = append(z.Rules, api.YearRule{From: 2000, To: 2010, Month: month, Week: nth, Weekday: weekday, Second: second, Offset: offset})
	}
	for i := range 13 {
		add(1+i/4, 1+i%4, 0, step, (5-i)*step)
	}
	add(6, 1, 3, 0, 0)
	add(7, 1, 3, 0, 6*step)
	if l, e := zone.Transitions(z); len(l) != 15*11 || e != api.OK {
		t.Fatalf("Transitions: %d of them, %d", len(l), e)
	}
	var l []api.Window
	for i := range 14 {
		l = append(l, api.Window{From: 600 * i, To: 600*i + 300})
	}
	from := may + 36*whole // in January 2001
	want := wantTimes(z, l, from, from+longest, 300)
	if len(want) < 1000 {
		t.Errorf("the test has %d spans only", len(want))
	}
	expectTimes(t, z, l, from, from+longest, want, api.OK)
}

// mixedWindows returns right windows whose numbers are multiples of unit.
func mixedWindows(number func(n int) int, unit int) []api.Window {
	borders := []int{}
	for range 2 * number(15) {
		borders = append(borders, unit*number(whole/unit+1))
	}
	slices.Sort(borders)
	var l []api.Window
	for i := 0; i+1 < len(borders); i += 2 {
		if borders[i] < borders[i+1] {
			l = append(l, api.Window{From: borders[i], To: borders[i+1]})
		}
	}
	return l
}

// mixedZone returns a valid zone whose transitions from 2000 to 2002, and their changes, are multiples of unit.
func mixedZone(number func(n int) int, unit int) api.Zone {
	half := 43000 / unit
	offset := func() int { return unit * (number(2*half+1) - half) }
	z := in(offset())
	for month := 1; month <= 12; month++ {
		if number(3) == 0 {
			z.Rules = append(z.Rules, api.YearRule{From: 2000, To: 2002, Month: month, Week: 1 + number(2), Weekday: number(7), Second: unit * number(day/unit), Offset: offset()})
		}
	}
	return z
}

func TestMixedTimes(t *testing.T) {
	const unit = 1800
	number := mixedNumbers()
	for i := range 300 {
		z, l := mixedZone(number, unit), mixedWindows(number, unit)
		if week.Check(l) != api.OK || zone.Check(z) != api.OK {
			t.Fatalf("%d: %v, %v are not valid", i, z, l)
		}
		from := may + unit*number(longest/unit)
		to := from + unit*number(longest/unit+1)
		if i%10 == 0 {
			to = from + longest
		}
		expectTimes(t, z, l, from, to, wantTimes(z, l, from, to, unit), api.OK)
		if rest, e := week.Invert(l); e == api.OK {
			expectTimes(t, z, rest, from, to, wantTimes(z, rest, from, to, unit), api.OK)
		}
	}
}

// P5.4

func TestLengthAndInvert(t *testing.T) {
	for _, x := range []struct {
		l      []api.Window
		length int
		others []api.Window
	}{
		{nil, 0, windows(0, whole)}, {windows(), 0, windows(0, whole)}, {windows(0, whole), whole, nil}, {windows(0, day), day, windows(day, whole)}, {windows(day, whole), 6 * day, windows(0, day)},
		{windows(5, 7), 2, windows(0, 5, 7, whole)}, {windows(0, 1), 1, windows(1, whole)}, {windows(whole-1, whole), 1, windows(0, whole-1)}, {windows(1, whole-1), whole - 2, windows(0, 1, whole-1, whole)}, {windows(0, 1, whole-1, whole), 2, windows(1, whole-1)},
		{windows(5, 7, 7, 9), 4, windows(0, 5, 9, whole)}, {windows(5, 7, 7, 9, 9, 10, 12, 13), 6, windows(0, 5, 10, 12, 13, whole)}, {windows(0, day, day, 2*day), 2 * day, windows(2*day, whole)}, {windows(0, day, day, whole), whole, nil}, {windows(0, 1, 1, whole-1, whole-1, whole), whole, nil}, {windows(5, whole-1, whole-1, whole), whole - 5, windows(0, 5)}, // windows that touch
		{windows(5, 7, 8, 9), 3, windows(0, 5, 7, 8, 9, whole)},
	} {
		expectWindows(t, x.l, api.OK, x.length, x.others, api.OK)
	}
	for _, l := range wrongWindows() {
		expectWindows(t, l, wantError(l), 0, nil, api.ErrInvalid)
	}
}

func TestNumberOfOthers(t *testing.T) {
	// 14 windows with a gap at both ends have 15 others; without one of these gaps, or where two of them touch, it is 14.
	expectWindows(t, apart(14, 1), api.OK, 70, nil, api.ErrLimit)
	others := slices.Concat(apart(13, 5), windows(135, whole))
	expectWindows(t, apart(14, 0), api.OK, 70, others, api.OK)
	expectWindows(t, others, api.OK, 65+whole-135, apart(14, 0), api.OK)
	last := slices.Concat(apart(13, 5), windows(whole-1, whole))
	if got, e := week.Invert(last); len(got) != 14 || e != api.OK {
		t.Errorf("Invert(%v) = %v, %d", last, got, e)
	}
	touching := apart(14, 1)
	touching[6].To = touching[7].From
	if got, e := week.Invert(touching); len(got) != 14 || e != api.OK {
		t.Errorf("Invert(%v) = %v, %d", touching, got, e)
	}
	if got, e := week.Invert(apart(13, 1)); len(got) != 14 || e != api.OK {
		t.Errorf("Invert(%v) = %v, %d", apart(13, 1), got, e)
	}
}

// least returns right windows in their least form.
func least(l []api.Window) []api.Window {
	var joined []api.Window
	for _, w := range l {
		if last := len(joined) - 1; last >= 0 && joined[last].To == w.From {
			joined[last].To = w.To
		} else {
			joined = append(joined, w)
		}
	}
	return joined
}

// TestInvertTwice is the consequence that Invert of Invert is the windows in their least form.
func TestInvertTwice(t *testing.T) {
	number := mixedNumbers()
	limited := 0
	for range 2000 {
		l := mixedWindows(number, []int{1, 900, 6 * hour, day}[number(4)])
		others, e := week.Invert(l)
		if e == api.ErrLimit && len(least(l)) == 14 && l[0].From > 0 && l[13].To < whole {
			limited++
			continue
		}
		back, f := week.Invert(others)
		if e != api.OK || f != api.OK || !slices.Equal(back, least(l)) || week.Length(l)+week.Length(others) != whole {
			t.Errorf("Invert(%v) = %v, %d, and of this: %v, %d", l, others, e, back, f)
		}
	}
	if limited == 0 {
		t.Error("no windows have too many others")
	}
}

// R2

func TestArgumentsStay(t *testing.T) {
	z, l := europe(), windows(6*day+hour, 6*day+9000, 6*day+9600, 6*day+4*hour)
	week.Check(l)
	week.Second(z, spring)
	week.In(z, l, spring)
	week.Length(l)
	set, _ := week.Times(z, l, spring-day, autumn+day)
	others, _ := week.Invert(l)
	clear(set)
	clear(others)
	if kept := europe(); z.Offset != kept.Offset || !slices.Equal(z.Rules, kept.Rules) {
		t.Errorf("the zone is %v now", z)
	}
	if !slices.Equal(l, windows(6*day+hour, 6*day+9000, 6*day+9600, 6*day+4*hour)) {
		t.Errorf("the windows are %v now", l)
	}
}
