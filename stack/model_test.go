package stack_test

import (
	"fmt"
	"reflect"
	"slices"
	"testing"

	"pagewatch/api"
	"pagewatch/duty"
	"pagewatch/resolve"
	"pagewatch/stack"
	"pagewatch/zone"
)

// wantAway says what P12.1 says.
func wantAway(s api.Schedule, person, t int) bool {
	found := false
	for _, x := range s.Edits {
		found = found || x.Kind == api.EditLeave && x.A == person && x.From <= t && t < x.To
	}
	return found
}

// wantLayer says what P12.2 says. It goes through the layers of a right configuration from the first to the last one.
func wantLayer(c api.Config, schedule, t int) (layer, person int) {
	layer, person = -1, -1
	for i, l := range c.Schedules[schedule].Layers {
		if !duty.On(c, l, t) {
			continue
		}
		if p := duty.Person(c, l, t); !wantAway(c.Schedules[schedule], p, t) {
			layer, person = i, p
		}
	}
	return layer, person
}

// model is who is on duty in each layer of a schedule in a range.
type model struct {
	s        api.Schedule
	from, to int
	layers   [][]api.Segment
}

func newModel(c api.Config, schedule, from, to int) model {
	m := model{s: c.Schedules[schedule], from: from, to: to}
	for _, l := range m.s.Layers {
		list, e := duty.Segments(c, l, from, to)
		if e != api.OK {
			panic("no segments")
		}
		m.layers = append(m.layers, list)
	}
	return m
}

// borders returns all instants within the range at which somebody else may be on call, with both ends of it, ascending.
func (m model) borders() []int {
	all := []int{m.from, m.to}
	for _, list := range m.layers {
		for _, s := range list {
			all = append(all, s.From)
		}
	}
	for _, x := range m.s.Edits {
		all = append(all, x.From, x.To)
	}
	all = slices.DeleteFunc(all, func(at int) bool { return at < m.from || at > m.to })
	slices.Sort(all)
	return slices.Compact(all)
}

// person returns who is on call at an instant of the range.
func (m model) person(t int) int {
	person := -1
	for _, list := range m.layers {
		i := slices.IndexFunc(list, func(s api.Segment) bool { return t < s.To })
		if p := list[i].Person; p >= 0 && !wantAway(m.s, p, t) {
			person = p
		}
	}
	return person
}

// segments returns who is on call from the first border to the last one, where it may change at borders only.
func (m model) segments(borders []int) []api.Segment {
	var l []api.Segment
	for i := 1; i < len(borders); i++ {
		person := m.person(borders[i-1])
		if n := len(l); n > 0 && l[n-1].Person == person {
			l[n-1].To = borders[i]
			continue
		}
		l = append(l, api.Segment{From: borders[i-1], To: borders[i], Person: person})
	}
	return l
}

// expectRange compares all functions with the definitions for a range of the schedule own of a right configuration.
func expectRange(t *testing.T, about string, c api.Config, from, to int) {
	t.Helper()
	m := newModel(c, own, from, to)
	borders := m.borders()
	want := m.segments(borders)
	if got, e := stack.Segments(c, own, from, to); !slices.Equal(got, want) || e != api.OK {
		t.Errorf("%s: Segments from %d to %d: %v, %d, want %v", about, from, to, brief(got), e, brief(want))
	}
	for i, at := range borders {
		// Of a long range, only some of the borders are looked at.
		if i%(1+len(borders)/8) == 0 {
			expectNear(t, about, c, at)
		}
	}
}

// expectNear compares Layer, Who and Away with the definitions at an instant, a second before and a second behind it.
func expectNear(t *testing.T, about string, c api.Config, at int) {
	t.Helper()
	for _, n := range []int{at - 1, at, at + 1} {
		layer, person := wantLayer(c, own, n)
		expectWho(t, about, c, n, layer, person)
		for person := range c.People {
			if got := stack.Away(c.Schedules[own], person, n); got != wantAway(c.Schedules[own], person, n) {
				t.Errorf("%s: Away of %d at %d is %t", about, person, n, got)
			}
		}
	}
}

// expectEach compares Segments with the definitions at each second of a short range.
func expectEach(t *testing.T, about string, c api.Config, from, to int) {
	t.Helper()
	var want []api.Segment
	for at := from; at < to; at++ {
		_, person := wantLayer(c, own, at)
		want = append(want, api.Segment{From: at, To: at + 1, Person: person})
	}
	want = duty.Merge(want)
	if got, e := stack.Segments(c, own, from, to); !slices.Equal(got, want) || e != api.OK {
		t.Errorf("%s: Segments from %d to %d: %v, %d, want %v", about, from, to, brief(got), e, brief(want))
	}
}

// clone returns a copy of a value, without any shared memory.
func clone[T any](x T) T {
	return deepCopy(reflect.ValueOf(x)).Interface().(T)
}

func deepCopy(v reflect.Value) reflect.Value {
	out := reflect.New(v.Type()).Elem()
	switch {
	case v.Kind() == reflect.Struct:
		for i := range v.NumField() {
			out.Field(i).Set(deepCopy(v.Field(i)))
		}
	case v.Kind() == reflect.Slice && !v.IsNil():
		out.Set(reflect.MakeSlice(v.Type(), v.Len(), v.Len()))
		for i := range v.Len() {
			out.Index(i).Set(deepCopy(v.Index(i)))
		}
	default:
		out.Set(v)
	}
	return out
}

// mixedNumbers returns a function whose results are less than n and look as if by chance, but are the same in each run.
func mixedNumbers(seed uint64) func(n int) int {
	return func(n int) int {
		seed = seed*6364136223846793005 + 1442695040888963407
		return int((seed >> 24) % uint64(n))
	}
}

// mixedOffset returns an offset, often one of those that zones have.
func mixedOffset(next func(n int) int) int {
	common := []int{0, hour, -hour, 2 * hour, widest, -widest, 43140, -43200, 60, -60}
	if next(3) > 0 {
		return common[next(len(common))]
	}
	return 60 * (next(2161) - 1080)
}

// mixedZone returns a right zone with transitions in the years 2000 to 2002, or with none.
func mixedZone(next func(n int) int, name string) api.Zone {
	for {
		z := api.Zone{Name: name, Offset: mixedOffset(next)}
		for range next(7) {
			from := 2000 + next(3)
			second := []int{0, 1, 1800, 2 * hour, 9000, day / 2, day - 1, next(day)}[next(8)]
			z.Rules = append(z.Rules, api.YearRule{From: from, To: from + next(2002-from+1), Month: 1 + next(12), Week: 1 + next(5), Weekday: next(7), Second: second, Offset: mixedOffset(next)})
		}
		if zone.Check(z) == api.OK {
			return z
		}
	}
}

// mixedWindows returns right windows, some of which touch each other, or begin or end at midnight.
func mixedWindows(next func(n int) int) []api.Window {
	borders := []int{0, week}
	for range next(12) {
		borders = append(borders, []int{next(7) * day, next(week), next(168) * hour, next(7)*day + 2*hour}[next(4)])
	}
	slices.Sort(borders)
	var l []api.Window
	for i := 1; i < len(borders); i++ {
		if borders[i-1] < borders[i] && next(2) == 0 {
			l = append(l, api.Window{From: borders[i-1], To: borders[i]})
		}
	}
	return l
}

// mixedLayer returns a layer that starts in March or April 2000.
func mixedLayer(next func(n int) int, c api.Config) api.Layer {
	l := api.Layer{Zone: next(len(c.Zones)), Unit: next(3), Every: []int{1, 1, 1, 2, 3, 7, 12, 25, 400, 1 + next(400)}[next(10)]}
	l.Start = api.Local{Day: monday - next(60), Second: []int{0, 1, 1800, 2 * hour, 9000, day - 1, next(day)}[next(7)]}
	for range 1 + next(4) {
		l.Members = append(l.Members, next(len(c.People)))
	}
	if next(3) > 0 {
		l.Windows = mixedWindows(next)
	}
	if next(3) == 0 {
		l.Mode, l.Calendar = 1+next(2), next(len(c.Calendars))
	}
	return l
}

// mixedEdit returns an edit, most often a leave, whose times are often borders, or near one.
func mixedEdit(next func(n int) int, c api.Config, borders []int) api.Edit {
	n := len(c.People)
	x := api.Edit{Kind: max(next(5)-2, 0), A: next(n)}
	if x.Kind == api.EditSwap {
		if n == 1 {
			return leave(0, 0, 1)
		}
		x.B = (x.A + 1 + next(n-1)) % n
	}
	x.From = borders[next(len(borders))] + []int{0, 0, -1, 1, next(2*day) - day}[next(5)]
	x.To = borders[next(len(borders))] + []int{0, 0, -1, 1, next(2*day) - day}[next(5)]
	if next(3) == 0 {
		x.To = x.From + []int{1, 2, hour, day, week}[next(5)]
	}
	if x.From > x.To {
		x.From, x.To = x.To, x.From
	}
	x.To = max(x.To, x.From+1)
	return x
}

// mixedConfig returns a right configuration whose schedule own has layers and edits, and borders of its layers in April to June 2000.
func mixedConfig(next func(n int) int) (api.Config, []int) {
	c := api.Config{People: people(1 + next(5))}
	for i := range 1 + next(3) {
		c.Zones = append(c.Zones, mixedZone(next, fmt.Sprint("z", i)))
	}
	for i := range 1 + next(2) {
		var days []int
		for range next(20) {
			days = append(days, monday+next(80)-40)
		}
		slices.Sort(days)
		c.Calendars = append(c.Calendars, api.Calendar{Name: fmt.Sprint("c", i), Zone: next(len(c.Zones)), Days: slices.Compact(days)})
	}
	for i := range 2 + next(2) {
		s := api.Schedule{Name: fmt.Sprint("s", i)}
		for k := range next(7) {
			l := mixedLayer(next, c)
			l.Name = fmt.Sprint("l", k)
			s.Layers = append(s.Layers, l)
		}
		c.Schedules = append(c.Schedules, s)
	}
	borders := newModel(c, own, may-30*day, may+30*day).borders()
	for i := range c.Schedules {
		for range next(9) * next(3) {
			c.Schedules[i].Edits = append(c.Schedules[i].Edits, mixedEdit(next, c, borders))
		}
	}
	return c, borders
}

// mixedRange returns a range that often begins or ends at a border, or near one.
func mixedRange(next func(n int) int, borders []int) (from, to int) {
	from = borders[next(len(borders))] + []int{0, 0, -1, 1, next(2*day) - day, -next(40 * day)}[next(6)]
	to = borders[next(len(borders))] + []int{0, 0, -1, 1, next(2*day) - day}[next(5)]
	if next(2) == 0 {
		to = from + []int{0, 1, 2, hour, day, week, 30 * day}[next(7)]
	}
	return from, min(max(from, to), from+longest)
}

// TestMixedSchedules compares all functions with the definitions.
func TestMixedSchedules(t *testing.T) {
	for seed := range 400 {
		next := mixedNumbers(uint64(seed))
		c, borders := mixedConfig(next)
		if e := resolve.Check(c); e != api.OK {
			t.Fatalf("seed %d: the configuration is wrong: %d", seed, e)
		}
		about := fmt.Sprint("seed ", seed)
		borders = append(borders, newModel(c, own, may-30*day, may+30*day).borders()...)
		for range 6 {
			from, to := mixedRange(next, borders)
			expectRange(t, about, c, from, to)
		}
		at := borders[next(len(borders))]
		expectEach(t, about, c, at-next(9), at+next(9))
		if t.Failed() {
			t.Fatal(c)
		}
	}
}

// TestMixedParts compares the segments of a range with those of its parts.
func TestMixedParts(t *testing.T) {
	for seed := range 200 {
		next := mixedNumbers(uint64(seed) + 1000)
		c, borders := mixedConfig(next)
		for range 10 {
			from, to := mixedRange(next, borders)
			middle := from + next(to-from+1)
			if next(2) == 0 {
				middle = min(max(borders[next(len(borders))], from), to)
			}
			first, e := stack.Segments(c, own, from, middle)
			second, f := stack.Segments(c, own, middle, to)
			whole, g := stack.Segments(c, own, from, to)
			if want := duty.Merge(append(slices.Clone(first), second...)); !slices.Equal(whole, want) || e != api.OK || f != api.OK || g != api.OK {
				t.Fatalf("seed %d: Segments from %d to %d: %v, want %v", seed, from, to, brief(whole), brief(want))
			}
		}
	}
}

// wantError says what P12.3 says, but for ErrLimit.
func wantError(c api.Config, schedule, from, to int) api.Errno {
	switch {
	case resolve.Check(c) != api.OK:
		return api.ErrInvalid
	case schedule < 0 || schedule >= len(c.Schedules):
		return api.ErrName
	case from < 0 || from > most || to < from || to > most || to-from > longest:
		return api.ErrRange
	}
	return api.OK
}

// TestMixedFaults changes a right configuration by one number or name, or two, and compares Layer, Who and the errors with the definitions.
func TestMixedFaults(t *testing.T) {
	numbers := []int{least, -86400, -2, -1, 0, 1, 2, 3, 5, 8, 12, 13, 400, 401, 86399, 86400, lastDay, lastDay + 1, may, may + 1, may + longest, most, most + 1, greatest}
	seen := map[api.Errno]int{}
	for seed := range 6000 {
		next := mixedNumbers(uint64(seed) + 2000)
		number := func() int { return numbers[next(len(numbers))] }
		c := conf(edits(leave(1, may, may+5), swap(0, 1, may, may+9)), layer(api.UnitDays, 1, 0, 1), always(next(3)))
		schedule, from, to := next(5)-1, number(), number()
		n, name := number(), []string{"", "a", "utc", "own", "Big", "nobody"}[next(6)]
		s := &c.Schedules[next(2)]
		l, x := &s.Layers[next(len(s.Layers))], &c.Schedules[own].Edits[next(2)]
		change := []func(){
			func() {}, func() { l.Zone = n }, func() { l.Start.Day = n }, func() { l.Unit = n }, func() { l.Every = n }, func() { l.Members = []int{n} }, func() { l.Calendar = n }, func() { l.Mode = n }, func() { l.Name = name },
			func() { x.Kind = n }, func() { x.A = n }, func() { x.B = n }, func() { x.From = n }, func() { x.To = n }, func() { s.Name = name }, func() { c.Zones[next(2)].Offset = n }, func() { c.People[next(8)].Name = name }, func() { c.People[0].Zone = n },
			func() { c.Schedules = nil }, func() { c.Schedules = c.Schedules[:min(len(c.Schedules), 2)] },
		}
		for range 1 + next(2) {
			change[next(len(change))]()
		}
		want := wantError(c, schedule, from, to)
		seen[want]++
		if got, e := stack.Segments(c, schedule, from, to); e != want || e != api.OK && len(got) > 0 {
			t.Errorf("seed %d: Segments: %v, %d, want %d", seed, brief(got), e, want)
		}
		layer, person := -1, -1
		if wantError(c, schedule, 0, 0) == api.OK {
			layer, person = wantLayer(c, schedule, from)
		}
		expectWhoOf(t, fmt.Sprint("seed ", seed), c, schedule, from, layer, person)
		if t.Failed() {
			t.Fatal(c)
		}
	}
	for _, e := range []api.Errno{api.OK, api.ErrInvalid, api.ErrName, api.ErrRange} {
		if seen[e] < 100 {
			t.Errorf("the error %d occurs %d times only", e, seen[e])
		}
	}
}
