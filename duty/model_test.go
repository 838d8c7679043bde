package duty_test

import (
	"fmt"
	"reflect"
	"slices"
	"testing"

	"pagewatch/api"
	"pagewatch/duty"
	"pagewatch/recur"
	"pagewatch/resolve"
	"pagewatch/zone"
)

// The following functions say what the definitions say, instant by instant.

// wantFits adds a schedule with a name of its own to a configuration; where there are as many as there may be, it stands in place of the first one.
func wantFits(c api.Config, l api.Layer) bool {
	if resolve.Check(c) != api.OK {
		return false
	}
	others := c.Schedules
	if len(others) == 12 {
		others = others[1:]
	}
	name := "own"
	for i := 0; slices.ContainsFunc(c.Schedules, func(s api.Schedule) bool { return s.Name == name }); i++ {
		name = fmt.Sprint("own", i)
	}
	c.Schedules = append(slices.Clone(others), api.Schedule{Name: name, Layers: []api.Layer{l}})
	return resolve.Check(c) == api.OK
}

// clock shows the local time of a zone, found without package zone's own search.
type clock struct {
	offset      int
	transitions []api.Transition
}

func newClock(z api.Zone) clock {
	transitions, _ := zone.Transitions(z)
	return clock{z.Offset, transitions}
}

// seconds returns the local time of an instant in seconds since the Monday before 1970-01-01, 0:00.
func (k clock) seconds(t int) int {
	offset := k.offset
	for _, x := range k.transitions {
		if x.At <= t {
			offset = x.Offset
		}
	}
	return t + offset + 3*day
}

// model is a layer that fits a configuration.
type model struct {
	c      api.Config
	l      api.Layer
	own    clock
	of     clock // of the calendar
	start  int
	exists bool // the handover 0
}

func newModel(c api.Config, l api.Layer) model {
	m := model{c: c, l: l, own: newClock(c.Zones[l.Zone])}
	if l.Mode != api.ModeNone {
		m.of = newClock(c.Zones[c.Calendars[l.Calendar].Zone])
	}
	start, e := zone.First(c.Zones[l.Zone], l.Start)
	m.start, m.exists = start, e == api.OK
	return m
}

// on reports whether the layer is on duty at an instant from 0 to MaxInstant.
func (m model) on(t int) bool {
	if !m.exists || m.start > t {
		return false
	}
	second := m.own.seconds(t) % week
	inOne := len(m.l.Windows) == 0
	for _, w := range m.l.Windows {
		inOne = inOne || w.From <= second && second < w.To
	}
	if m.l.Mode == api.ModeNone {
		return inOne
	}
	isListed := false
	for _, d := range m.c.Calendars[m.l.Calendar].Days {
		isListed = isListed || m.of.seconds(t)/day-3 == d
	}
	return inOne && isListed == (m.l.Mode == api.ModeOnly)
}

// person returns who is on duty at an instant from 0 to MaxInstant.
func (m model) person(t int) int {
	if !m.on(t) {
		return -1
	}
	turn, e := recur.Turn(m.c.Zones[m.l.Zone], m.l, t)
	if e != api.OK {
		panic("no turn")
	}
	return m.l.Members[turn]
}

// midnights returns the instants at which a zone shows one of some seconds of the week, for all days near a range, and its transitions.
func midnights(z api.Zone, seconds []int, from, to int) []int {
	var all []int
	for d := from/day - 3; d <= to/day+3; d++ {
		for _, s := range seconds {
			if (d+3+700)%7 == s/day {
				instants, _ := zone.FromLocal(z, api.Local{Day: d, Second: s % day})
				all = append(all, instants...)
			}
		}
	}
	transitions, _ := zone.Transitions(z)
	for _, x := range transitions {
		all = append(all, x.At)
	}
	return all
}

// borders returns all instants within a range at which somebody else may be on duty, with both ends of the range, ascending.
func (m model) borders(from, to int) []int {
	z := m.c.Zones[m.l.Zone]
	var seconds []int
	for _, w := range m.l.Windows {
		seconds = append(seconds, w.From, w.To%week)
	}
	all := midnights(z, seconds, from, to)
	if m.l.Mode != api.ModeNone {
		x := m.c.Calendars[m.l.Calendar]
		all = append(all, midnights(m.c.Zones[x.Zone], []int{0, day, 2 * day, 3 * day, 4 * day, 5 * day, 6 * day}, from, to)...)
	}
	first, _ := recur.Shift(z, m.l, from)
	for k := max(first, 0); ; k++ {
		at, e := recur.Handover(z, m.l, k)
		if e != api.OK || at > to {
			break
		}
		all = append(all, at)
	}
	all = append(slices.DeleteFunc(all, func(at int) bool { return at <= from || at >= to }), from, to)
	slices.Sort(all)
	return slices.Compact(all)
}

// segments returns who is on duty in a range that is right, where it may change at borders only.
func (m model) segments(borders []int) []api.Segment {
	var l []api.Segment
	for i := 1; i < len(borders); i++ {
		person := m.person(borders[i-1])
		if n := len(l); n > 0 && l[n-1].Person == person {
			l[n-1].To = borders[i]
			continue
		}
		l = append(l, api.Segment{From: borders[i-1], To: borders[i], Person: person})
	}
	return l
}

// onDuty returns the times of segments with a person.
func onDuty(l []api.Segment) []api.Span {
	var set []api.Span
	for _, s := range l {
		if s.Person < 0 {
			continue
		}
		if n := len(set); n > 0 && set[n-1].To == s.From {
			set[n-1].To = s.To
			continue
		}
		set = append(set, api.Span{From: s.From, To: s.To})
	}
	return set
}

// each returns all instants of a short range, and its end.
func each(from, to int) []int {
	var l []int
	for t := from; t <= to; t++ {
		l = append(l, t)
	}
	return l
}

// expectPerson compares Person and On with who must be on duty.
func expectPerson(t *testing.T, about string, c api.Config, l api.Layer, at, want int) {
	t.Helper()
	if got := duty.Person(c, l, at); got != want {
		t.Errorf("%s: Person at %d is %d, want %d", about, at, got, want)
	}
	if got := duty.On(c, l, at); got != (want >= 0) {
		t.Errorf("%s: On at %d is %t", about, at, got)
	}
}

// expectSegments compares Segments and Times with the segments that there must be.
func expectSegments(t *testing.T, about string, c api.Config, l api.Layer, from, to int, want []api.Segment) {
	t.Helper()
	if got, e := duty.Segments(c, l, from, to); !slices.Equal(got, want) || e != api.OK {
		t.Errorf("%s: Segments from %d to %d: %v, %d, want %v", about, from, to, brief(got), e, brief(want))
	}
	if got, e := duty.Times(c, l, from, to); !slices.Equal(got, onDuty(want)) || e != api.OK {
		t.Errorf("%s: Times from %d to %d: %v, %d, want %v", about, from, to, brief(got), e, brief(onDuty(want)))
	}
}

// expectError makes sure that Segments and Times return an error for a range.
func expectError(t *testing.T, about string, c api.Config, l api.Layer, from, to int, want api.Errno) {
	t.Helper()
	if got, e := duty.Segments(c, l, from, to); len(got) > 0 || e != want {
		t.Errorf("%s: Segments from %d to %d: %v, %d, want %d", about, from, to, brief(got), e, want)
	}
	if got, e := duty.Times(c, l, from, to); len(got) > 0 || e != want {
		t.Errorf("%s: Times from %d to %d: %v, %d, want %d", about, from, to, brief(got), e, want)
	}
}

// expectRange compares all functions with the model for a range, and Person and On at its borders.
func expectRange(t *testing.T, about string, c api.Config, l api.Layer, from, to int) {
	t.Helper()
	m := newModel(c, l)
	borders := m.borders(from, to)
	expectSegments(t, about, c, l, from, to, m.segments(borders))
	for i, at := range borders {
		// Of a long range, only some of the borders are looked at.
		if i%(1+len(borders)/40) == 0 {
			expectNear(t, about, m, at)
		}
	}
}

// expectNear compares Person and On with the model at an instant, a second before and a second behind it.
func expectNear(t *testing.T, about string, m model, at int) {
	t.Helper()
	for _, n := range []int{at - 1, at, at + 1} {
		want := -1
		if n >= 0 && n <= most {
			want = m.person(n)
		}
		expectPerson(t, about, m.c, m.l, n, want)
	}
}

// brief returns the beginning of a long list.
func brief[T any](l []T) []T {
	return l[:min(len(l), 12)]
}

// clone returns a copy of a value, without any shared memory.
func clone[T any](x T) T {
	return deepCopy(reflect.ValueOf(x)).Interface().(T)
}

func deepCopy(v reflect.Value) reflect.Value {
	out := reflect.New(v.Type()).Elem()
	switch {
	case v.Kind() == reflect.Struct:
		for i := range v.NumField() {
			out.Field(i).Set(deepCopy(v.Field(i)))
		}
	case v.Kind() == reflect.Slice && !v.IsNil():
		out.Set(reflect.MakeSlice(v.Type(), v.Len(), v.Len()))
		for i := range v.Len() {
			out.Index(i).Set(deepCopy(v.Index(i)))
		}
	default:
		out.Set(v)
	}
	return out
}

// mixedNumbers returns a function whose results are less than n and look as if by chance, but are the same in each run.
func mixedNumbers(seed uint64) func(n int) int {
	return func(n int) int {
		seed = seed*6364136223846793005 + 1442695040888963407
		return int((seed >> 24) % uint64(n))
	}
}

// mixedOffset returns an offset, often one of those that zones have.
func mixedOffset(next func(n int) int) int {
	common := []int{0, hour, -hour, 2 * hour, widest, -widest, 43140, -43200, 60, -60}
	if next(3) > 0 {
		return common[next(len(common))]
	}
	return 60 * (next(2161) - 1080)
}

// mixedZone returns a right zone with transitions in the years 2000 to 2002, or with none.
func mixedZone(next func(n int) int, name string) api.Zone {
	for {
		z := api.Zone{Name: name, Offset: mixedOffset(next)}
		for range next(7) {
			from := 2000 + next(3)
			second := []int{0, 1, 1800, 2 * hour, 9000, day / 2, day - 1, next(day)}[next(8)]
			z.Rules = append(z.Rules, api.YearRule{From: from, To: from + next(2002-from+1), Month: 1 + next(12), Week: 1 + next(5), Weekday: next(7), Second: second, Offset: mixedOffset(next)})
		}
		if zone.Check(z) == api.OK {
			return z
		}
	}
}

// mixedWindows returns right windows, some of which touch each other, or begin or end at midnight.
func mixedWindows(next func(n int) int) []api.Window {
	borders := []int{0, week}
	for range next(12) {
		borders = append(borders, []int{next(7) * day, next(week), next(168) * hour, next(7)*day + 2*hour}[next(4)])
	}
	slices.Sort(borders)
	var l []api.Window
	for i := 1; i < len(borders); i++ {
		if borders[i-1] < borders[i] && next(2) == 0 {
			l = append(l, api.Window{From: borders[i-1], To: borders[i]})
		}
	}
	return l
}

// mixedDay returns a day in the years 2000 to 2002, often one near a transition of one of the zones.
func mixedDay(next func(n int) int, zones []api.Zone) int {
	transitions, _ := zone.Transitions(zones[next(len(zones))])
	if len(transitions) > 0 && next(4) > 0 {
		return transitions[next(len(transitions))].At/day + next(4) - 2
	}
	return newYear/day + next(3*365)
}

// mixedConfig returns a right configuration with at least one person and one calendar.
func mixedConfig(next func(n int) int) api.Config {
	c := api.Config{People: people(1 + next(5))}
	for i := range 1 + next(3) {
		c.Zones = append(c.Zones, mixedZone(next, fmt.Sprint("z", i)))
	}
	for i := range 1 + next(3) {
		var days []int
		for range next(20) {
			d := mixedDay(next, c.Zones)
			days = append(days, d)
			if next(3) == 0 {
				days = append(days, d+1)
			}
		}
		slices.Sort(days)
		c.Calendars = append(c.Calendars, api.Calendar{Name: fmt.Sprint("c", i), Zone: next(len(c.Zones)), Days: slices.Compact(days)})
	}
	for i := range next(3) {
		s := api.Schedule{Name: fmt.Sprint("s", i), Edits: []api.Edit{{From: next(most / 2), To: most/2 + next(most/4)}}}
		for k := range next(3) {
			l := mixedLayer(next, c)
			l.Name = fmt.Sprint("l", k)
			s.Layers = append(s.Layers, l)
		}
		c.Schedules = append(c.Schedules, s)
	}
	return c
}

// mixedLayer returns a layer that fits a configuration and starts near the years 2000 to 2002, often near a transition.
func mixedLayer(next func(n int) int, c api.Config) api.Layer {
	l := api.Layer{Name: "l", Zone: next(len(c.Zones)), Unit: next(3), Every: []int{1, 1, 1, 2, 3, 7, 12, 25, 400, 1 + next(400)}[next(10)]}
	start := mixedDay(next, c.Zones[l.Zone:l.Zone+1]) - next(3)*next(40)
	l.Start = api.Local{Day: start, Second: []int{0, 1, 1800, 2 * hour, 9000, day - 1, next(day)}[next(7)]}
	for range 1 + next(4) {
		l.Members = append(l.Members, next(len(c.People)))
	}
	if next(3) > 0 {
		l.Windows = mixedWindows(next)
	}
	if next(3) > 0 {
		l.Mode, l.Calendar = 1+next(2), next(len(c.Calendars))
	}
	return l
}

// mixedRange returns a range that often begins or ends at a border, or near one.
func mixedRange(next func(n int) int, borders []int) (from, to int) {
	from = borders[next(len(borders))] + []int{0, 0, -1, 1, next(2*day) - day, -next(40 * day)}[next(6)]
	to = borders[next(len(borders))] + []int{0, 0, -1, 1, next(2*day) - day}[next(5)]
	if next(2) == 0 {
		to = from + []int{0, 1, 2, hour, day, week, 30 * day}[next(7)]
	}
	from = max(from, 0)
	return from, min(max(from, to), from+longest)
}

// TestMixedLayers compares all functions with the definitions.
func TestMixedLayers(t *testing.T) {
	for seed := range 800 {
		next := mixedNumbers(uint64(seed))
		c := mixedConfig(next)
		l := mixedLayer(next, c)
		about := fmt.Sprint("seed ", seed)
		m := newModel(c, l)
		begin := max(m.start-20*day, newYear) + next(600*day)
		borders := m.borders(begin, begin+60*day)
		if next(3) == 0 {
			borders = append(borders, m.start)
		}
		for range 8 {
			from, to := mixedRange(next, borders)
			expectRange(t, about, c, l, from, to)
		}
		for range 4 {
			at := borders[next(len(borders))]
			from, to := at-next(9), at+next(9)
			expectSegments(t, about, c, l, from, to, m.segments(each(from, to)))
		}
		if t.Failed() {
			t.Fatalf("%v\n%v", c, l)
		}
	}
}

// TestMixedParts compares the segments and times of a range with those of its parts.
func TestMixedParts(t *testing.T) {
	for seed := range 300 {
		next := mixedNumbers(uint64(seed) + 1000)
		c := mixedConfig(next)
		l := mixedLayer(next, c)
		m := newModel(c, l)
		borders := m.borders(m.start, m.start+100*day)
		for range 10 {
			from, to := mixedRange(next, borders)
			middle := from + next(to-from+1)
			if next(2) == 0 {
				middle = min(max(borders[next(len(borders))], from), to)
			}
			first, e := duty.Segments(c, l, from, middle)
			second, f := duty.Segments(c, l, middle, to)
			if e != api.OK || f != api.OK {
				t.Fatalf("seed %d: %d, %d", seed, e, f)
			}
			expectSegments(t, fmt.Sprint("parts, seed ", seed), c, l, from, to, duty.Merge(append(slices.Clone(first), second...)))
		}
	}
}

// TestMixedFaults changes a right configuration and layer by one number or name, or two, and compares On, Person and the errors with the definition.
func TestMixedFaults(t *testing.T) {
	numbers := []int{least, -86400, -2, -1, 0, 1, 2, 3, 5, 12, 13, 31, 400, 401, 86399, 86400, lastDay, lastDay + 1, most, most + 1, greatest}
	right := 0
	for seed := range 2000 {
		next := mixedNumbers(uint64(seed) + 2000)
		c, l := conf(), layer(next(3), 1+next(9), next(3), next(3), next(3))
		for range 1 + next(2) {
			n := numbers[next(len(numbers))]
			name := []string{"", "a", "utc", "alone", "Big", "nobody", "x y"}[next(7)]
			change := []func(){
				func() { l.Zone = n }, func() { l.Start.Day = n }, func() { l.Start.Second = n }, func() { l.Unit = n }, func() { l.Every = n }, func() { l.Members = append([]int{n}, l.Members...) },
				func() { l.Members = make([]int, min(max(n, 0), 99)) }, func() { l.Windows = windows(0, n, day, 2*day) }, func() { l.Calendar = n }, func() { l.Mode = n }, func() { l.Mode, l.Calendar = api.ModeOnly, n }, func() { l.Name = name },
				func() { c.Zones[next(2)].Offset = n }, func() { c.Zones[next(2)].Name = name }, func() { c.People[next(2)].MaxWeek = n }, func() { c.People[next(2)].Zone = n }, func() { c.People[next(2)].Name = name },
				func() { c.Calendars[next(2)].Zone = n }, func() { c.Calendars[next(2)].Days = []int{5, n} }, func() { c.Calendars[next(2)].Name = name }, func() { c.Schedules = append(c.Schedules, api.Schedule{Name: name}) },
				func() {
					c.Schedules = append(schedules(2), api.Schedule{Name: "more", Layers: []api.Layer{layer(0, n, 0)}})
				},
				func() {
					c.Schedules = append(schedules(2), api.Schedule{Name: "more", Edits: []api.Edit{{A: n, To: 1}}})
				}, func() { c.Schedules = schedules(min(max(n, 0), 99)) },
			}
			change[next(len(change))]()
		}
		about := fmt.Sprintf("seed %d: %v", seed, l)
		if !wantFits(c, l) {
			expectUnfit(t, about, c, l)
			continue
		}
		right++
		m := newModel(c, l)
		for _, at := range []int{least, -1, 0, m.start - 1, m.start, m.start + 20*day, most, most + 1, greatest} {
			want := -1
			if at >= 0 && at <= most {
				want = m.person(at)
			}
			expectPerson(t, about, c, l, at, want)
		}
		expectRange(t, about, c, l, m.start, min(m.start+9*day, most))
		expectError(t, about, c, l, -1, 0, api.ErrRange)
	}
	if right < 400 || right > 1600 {
		t.Errorf("%d of the layers fit", right)
	}
}

// TestModel makes sure that the model itself answers the examples of the chapter.
func TestModel(t *testing.T) {
	c := api.Config{Zones: []api.Zone{{Name: "z"}}, People: people(2), Calendars: []api.Calendar{{Name: "c", Days: []int{11}}}}
	l := api.Layer{Name: "l", Start: api.Local{Day: 4}, Unit: api.UnitWeeks, Every: 1, Members: []int{0, 1}, Windows: windows(9*hour, 17*hour)}
	if !wantFits(c, l) || wantFits(api.Config{}, l) || wantFits(c, api.Layer{}) {
		t.Error("what fits")
	}
	m := newModel(c, l)
	if m.person(11*day+12*hour) != 1 || m.person(11*day+18*hour) != -1 || m.person(4*day+12*hour) != 0 || m.person(4*day-1) != -1 {
		t.Error("example 1")
	}
	l.Mode = api.ModeNot
	m = newModel(c, l)
	if m.person(11*day+12*hour) != -1 || m.person(18*day+12*hour) != 0 {
		t.Error("example 2")
	}
	if got := m.segments(m.borders(4*day, 18*day)); !slices.Equal(got, segments(4*day, 4*day+9*hour, -1, 4*day+9*hour, 4*day+17*hour, 0, 4*day+17*hour, 18*day, -1)) {
		t.Errorf("segments: %v", got)
	}
}
