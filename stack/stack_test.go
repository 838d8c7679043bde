package stack_test

import (
	"fmt"
	"math"
	"reflect"
	"slices"
	"testing"

	"pagewatch/api"
	"pagewatch/stack"
)

const (
	hour     = 3600
	day      = 86400
	week     = 604800
	most     = 1 << 33
	longest  = 400 * day
	widest   = 64800
	lastDay  = 98980 // 2240-12-31
	least    = math.MinInt
	greatest = math.MaxInt
	newYear  = 946684800  // 2000-01-01 0:00 UTC
	monday   = 11078      // 2000-05-01
	may      = 957139200  // its beginning in UTC
	spring   = 1774746000 // 2026-03-29 1:00 UTC, a Sunday, on the day 20541
	autumn   = 1792890000 // 2026-10-25 1:00 UTC, a Sunday, on the day 20751
)

// The zones of conf.
const (
	utc    = 0
	europe = 1
	east   = 2 // +18:00
	west   = 3 // -18:00
)

// own is the schedule of conf that has the layers and edits of a test.
const own = 1

// people returns n people with names of their own.
func people(n int) []api.Person {
	var l []api.Person
	for i := range n {
		l = append(l, api.Person{Name: fmt.Sprint("p", i)})
	}
	return l
}

// conf returns a configuration with eight people and three schedules: one in which 7 is always on call from 1970 on, one with layers and edits, and one without layers in which everybody is away.
func conf(edits []api.Edit, layers ...api.Layer) api.Config {
	c := api.Config{
		Zones: []api.Zone{{Name: "utc"},
			{Name: "europe", Offset: hour, Rules: []api.YearRule{{From: 2020, To: 2030, Month: 3, Week: 5, Weekday: 6, Second: 2 * hour, Offset: 2 * hour}, {From: 2020, To: 2030, Month: 10, Week: 5, Weekday: 6, Second: 3 * hour, Offset: hour}}},
			{Name: "east", Offset: widest}, {Name: "west", Offset: -widest},
		},
		People:    people(8),
		Calendars: []api.Calendar{{Name: "a", Days: []int{monday, monday + 1, monday + 3, 20541}}, {Name: "b"}},
		Schedules: []api.Schedule{{Name: "other", Layers: []api.Layer{starting(always(7), utc, 1, 0)}}, {Name: "own", Edits: edits}, {Name: "empty"}},
	}
	for i := range c.People {
		c.Schedules[2].Edits = append(c.Schedules[2].Edits, leave(i, 0, lastDay*day))
	}
	for i, l := range layers {
		l.Name = fmt.Sprint("l", i)
		c.Schedules[own].Layers = append(c.Schedules[own].Layers, l)
	}
	return c
}

// layer returns a layer in the zone utc that starts on Monday, 2000-05-01, at 0:00.
func layer(unit, every int, members ...int) api.Layer {
	return api.Layer{Name: "l", Start: api.Local{Day: monday}, Unit: unit, Every: every, Members: members}
}

// always returns a layer with one member.
func always(person int) api.Layer {
	return layer(api.UnitWeeks, 1, person)
}

// with returns a layer with windows, whose numbers are given in pairs.
func with(l api.Layer, numbers ...int) api.Layer {
	for i := 0; i+1 < len(numbers); i += 2 {
		l.Windows = append(slices.Clone(l.Windows), api.Window{From: numbers[i], To: numbers[i+1]})
	}
	return l
}

// moded returns a layer that uses a calendar.
func moded(l api.Layer, mode, calendar int) api.Layer {
	l.Mode, l.Calendar = mode, calendar
	return l
}

// starting returns a layer in another zone with another start.
func starting(l api.Layer, z, d, second int) api.Layer {
	l.Zone, l.Start = z, api.Local{Day: d, Second: second}
	return l
}

func leave(a, from, to int) api.Edit {
	return api.Edit{Kind: api.EditLeave, A: a, From: from, To: to}
}

func override(a, from, to int) api.Edit {
	return api.Edit{Kind: api.EditOverride, A: a, From: from, To: to}
}

func swap(a, b, from, to int) api.Edit {
	return api.Edit{Kind: api.EditSwap, A: a, B: b, From: from, To: to}
}

// edits returns its arguments as a list.
func edits(l ...api.Edit) []api.Edit {
	return l
}

// segments returns the segments whose numbers are given in threes.
func segments(numbers ...int) []api.Segment {
	var l []api.Segment
	for i := 0; i+2 < len(numbers); i += 3 {
		l = append(l, api.Segment{From: numbers[i], To: numbers[i+1], Person: numbers[i+2]})
	}
	return l
}

// brief returns the beginning of a long list.
func brief[T any](l []T) []T {
	return l[:min(len(l), 12)]
}

// expectWho compares Layer and Who of the schedule own with the layer and the person that there must be.
func expectWho(t *testing.T, about string, c api.Config, at, layer, person int) {
	t.Helper()
	expectWhoOf(t, about, c, own, at, layer, person)
}

func expectWhoOf(t *testing.T, about string, c api.Config, schedule, at, layer, person int) {
	t.Helper()
	if got := stack.Layer(c, schedule, at); got != layer {
		t.Errorf("%s: Layer(%d, %d) = %d, want %d", about, schedule, at, got, layer)
	}
	if got := stack.Who(c, schedule, at); got != person {
		t.Errorf("%s: Who(%d, %d) = %d, want %d", about, schedule, at, got, person)
	}
}

// expectSegments compares Segments of the schedule own with the segments that there must be, and Who with them.
func expectSegments(t *testing.T, about string, c api.Config, from, to int, want []api.Segment) {
	t.Helper()
	if got, e := stack.Segments(c, own, from, to); !slices.Equal(got, want) || e != api.OK {
		t.Errorf("%s: Segments from %d to %d: %v, %d, want %v", about, from, to, brief(got), e, brief(want))
	}
	for _, s := range brief(want) {
		for _, at := range []int{s.From, (s.From + s.To) / 2, s.To - 1} {
			if got := stack.Who(c, own, at); got != s.Person {
				t.Errorf("%s: Who at %d is %d, want %d", about, at, got, s.Person)
			}
		}
	}
}

// expectError makes sure that Segments returns an error.
func expectError(t *testing.T, about string, c api.Config, schedule, from, to int, want api.Errno) {
	t.Helper()
	if got, e := stack.Segments(c, schedule, from, to); len(got) > 0 || e != want {
		t.Errorf("%s: Segments(%d, %d, %d) = %v, %d, want %d", about, schedule, from, to, brief(got), e, want)
	}
}

// P12.1

func TestAway(t *testing.T) {
	several := edits(leave(2, 10, 20), leave(1, 15, 25), leave(2, 20, 30), leave(2, 28, 40), leave(2, 12, 14), leave(2, 10, 20), leave(2, 50, 51))
	for i, x := range []struct {
		edits      []api.Edit
		person, at int
		want       bool
	}{
		{nil, 0, 0, false}, {nil, -1, -1, false}, {edits(), 2, 5, false},
		{edits(leave(2, 10, 20)), 2, 9, false}, {edits(leave(2, 10, 20)), 2, 10, true}, {edits(leave(2, 10, 20)), 2, 11, true}, {edits(leave(2, 10, 20)), 2, 19, true}, {edits(leave(2, 10, 20)), 2, 20, false}, {edits(leave(2, 10, 20)), 2, 21, false},
		{edits(leave(2, 10, 20)), 1, 15, false}, {edits(leave(2, 10, 20)), 3, 15, false}, {edits(leave(2, 10, 20)), 0, 15, false}, {edits(leave(2, 10, 20)), -1, 15, false}, {edits(leave(2, 10, 20)), 10, 15, false},
		{edits(leave(0, 10, 11)), 0, 9, false}, {edits(leave(0, 10, 11)), 0, 10, true}, {edits(leave(0, 10, 11)), 0, 11, false},
		{edits(leave(31, 0, most)), 31, 0, true}, {edits(leave(31, 0, most)), 31, most - 1, true}, {edits(leave(31, 0, most)), 31, most, false}, {edits(leave(31, 0, most)), 31, -1, false},
		{edits(override(2, 10, 20)), 2, 15, false}, {edits(swap(2, 1, 10, 20)), 2, 15, false}, {edits(swap(1, 2, 10, 20)), 2, 15, false}, {edits(override(-1, 10, 20)), -1, 15, false},
		{edits(override(2, 10, 20), leave(2, 16, 18)), 2, 15, false}, {edits(override(2, 10, 20), leave(2, 16, 18)), 2, 16, true}, {edits(leave(2, 16, 18), swap(2, 1, 10, 20)), 2, 17, true}, {edits(leave(2, 16, 18), swap(2, 1, 10, 20)), 2, 18, false},
		{several, 2, 9, false}, {several, 2, 10, true}, {several, 2, 13, true}, {several, 2, 14, true}, {several, 2, 19, true}, {several, 2, 20, true}, {several, 2, 27, true}, {several, 2, 28, true}, {several, 2, 29, true}, {several, 2, 30, true}, {several, 2, 39, true}, {several, 2, 40, false}, {several, 2, 49, false}, {several, 2, 50, true}, {several, 2, 51, false},
		{several, 1, 14, false}, {several, 1, 15, true}, {several, 1, 24, true}, {several, 1, 25, false}, {several, 0, 15, false},
		// Schedules that are not right have edits, too.
		{edits(api.Edit{Kind: 3, A: 2, From: 10, To: 20}), 2, 15, false}, {edits(api.Edit{Kind: -1, A: 2, From: 10, To: 20}), 2, 15, false}, {edits(api.Edit{Kind: least, A: 2, From: 10, To: 20}), 2, 15, false},
		{edits(leave(2, 20, 10)), 2, 15, false}, {edits(leave(2, 15, 15)), 2, 15, false}, {edits(leave(2, 16, 15)), 2, 15, false}, {edits(leave(2, 15, 14)), 2, 15, false}, {edits(leave(2, 16, 15)), 2, 16, false},
		{edits(leave(2, least, greatest)), 2, least, true}, {edits(leave(2, least, greatest)), 2, 0, true}, {edits(leave(2, least, greatest)), 2, greatest - 1, true}, {edits(leave(2, least, greatest)), 2, greatest, false},
		{edits(leave(-1, -5, 5)), -1, -5, true}, {edits(leave(-1, -5, 5)), -1, 5, false}, {edits(leave(-1, -5, 5)), 1, 0, false}, {edits(leave(least, 0, 5)), least, 0, true}, {edits(leave(greatest, 0, 5)), greatest, 4, true}, {edits(leave(greatest, 0, 5)), least, 4, false},
		{edits(api.Edit{A: 2, B: 7, From: 10, To: 20}), 2, 15, true}, {edits(api.Edit{A: 2, B: 7, From: 10, To: 20}), 7, 15, false},
	} {
		for _, s := range []api.Schedule{{Edits: x.edits}, {Name: "s", Layers: []api.Layer{always(2), {}}, Edits: x.edits}} {
			if got := stack.Away(s, x.person, x.at); got != x.want {
				t.Errorf("case %d: Away of %d at %d is %t", i, x.person, x.at, got)
			}
		}
	}
}

func TestMixedAway(t *testing.T) {
	next := mixedNumbers(1)
	for range 3000 {
		var s api.Schedule
		var want [4][12]bool
		for range next(7) {
			x := api.Edit{Kind: next(3), A: next(4), B: next(4), From: next(12), To: next(13)}
			s.Edits = append(s.Edits, x)
			for at := x.From; at < x.To; at++ {
				if x.Kind == api.EditLeave {
					want[x.A][at] = true
				}
			}
		}
		for person, times := range want {
			for at, is := range times {
				if got := stack.Away(s, person, at); got != is {
					t.Fatalf("%v: Away of %d at %d is %t", s.Edits, person, at, got)
				}
			}
		}
	}
}

// P12.2

func TestExample(t *testing.T) {
	c := conf(nil, layer(api.UnitDays, 1, 0, 1), with(always(2), 0, day))
	for i := range 30 {
		at := may + i*day
		if i%7 == 0 {
			expectWho(t, "Monday", c, at, 1, 2)
			expectWho(t, "the end of Monday", c, at+day-1, 1, 2)
			continue
		}
		expectWho(t, "another day", c, at, 0, i%2)
		expectWho(t, "the end of another day", c, at+day-1, 0, i%2)
	}
	c.Schedules[own].Edits = edits(leave(2, may+7*day, may+15*day))
	expectWho(t, "before the leave", c, may, 1, 2)
	expectWho(t, "on leave", c, may+7*day, 0, 1)
	expectWho(t, "on leave, a week later", c, may+14*day, 0, 0)
	expectWho(t, "behind the leave", c, may+21*day, 1, 2)
}

func TestOneLayer(t *testing.T) {
	for i, x := range []struct {
		l          api.Layer
		at, person int
	}{
		{always(3), may - 1, -1}, {always(3), may, 3}, {always(3), may + 1, 3}, {always(3), may + 100*week, 3}, {always(0), may, 0}, {always(7), may, 7},
		{starting(always(3), west, monday, 9*hour), may + 9*hour + widest - 1, -1}, {starting(always(3), west, monday, 9*hour), may + 9*hour + widest, 3}, {starting(always(3), east, monday, 9*hour), may + 9*hour - widest - 1, -1}, {starting(always(3), east, monday, 9*hour), may + 9*hour - widest, 3},
		{layer(api.UnitDays, 1, 4, 0, 4), may + day - 1, 4}, {layer(api.UnitDays, 1, 4, 0, 4), may + day, 0}, {layer(api.UnitDays, 1, 4, 0, 4), may + 2*day - 1, 0}, {layer(api.UnitDays, 1, 4, 0, 4), may + 2*day, 4}, {layer(api.UnitDays, 1, 4, 0, 4), may + 3*day, 4}, {layer(api.UnitDays, 1, 4, 0, 4), may + 4*day, 0},
		{layer(api.UnitHours, 5, 4, 1), may + 5*hour - 1, 4}, {layer(api.UnitHours, 5, 4, 1), may + 5*hour, 1},
		{with(always(3), 9*hour, 17*hour), may + 9*hour - 1, -1}, {with(always(3), 9*hour, 17*hour), may + 9*hour, 3}, {with(always(3), 9*hour, 17*hour), may + 17*hour - 1, 3}, {with(always(3), 9*hour, 17*hour), may + 17*hour, -1}, {with(always(3), 9*hour, 17*hour), may + day + 9*hour, -1}, {with(always(3), 9*hour, 17*hour), may + week + 9*hour, 3}, {with(always(3), 9*hour, 17*hour), may - week + 9*hour, -1},
		{moded(always(3), api.ModeOnly, 0), may, 3}, {moded(always(3), api.ModeOnly, 0), may + 2*day - 1, 3}, {moded(always(3), api.ModeOnly, 0), may + 2*day, -1}, {moded(always(3), api.ModeOnly, 0), may + 3*day, 3}, {moded(always(3), api.ModeOnly, 0), may + 4*day, -1}, {moded(always(3), api.ModeOnly, 1), may, -1},
		{moded(always(3), api.ModeNot, 0), may, -1}, {moded(always(3), api.ModeNot, 0), may + 2*day - 1, -1}, {moded(always(3), api.ModeNot, 0), may + 2*day, 3}, {moded(always(3), api.ModeNot, 0), may + 3*day, -1}, {moded(always(3), api.ModeNot, 0), may + 4*day, 3}, {moded(always(3), api.ModeNot, 1), may, 3},
		{starting(layer(api.UnitDays, 1, 5, 6), europe, 20540, 9000), spring - 1, 5}, {starting(layer(api.UnitDays, 1, 5, 6), europe, 20540, 9000), spring, 6},
	} {
		layer := min(x.person, 0)
		expectWho(t, fmt.Sprint("layer ", i), conf(nil, x.l), x.at, layer, x.person)
		// Layers that are never on duty, or whose person is away, lie below and above it.
		never := moded(always(1), api.ModeOnly, 1)
		expectWho(t, fmt.Sprint("between others, layer ", i), conf(nil, never, x.l, never), x.at, layer+min(1, layer+1), x.person)
		gone := edits(leave(2, 0, lastDay*day))
		expectWho(t, fmt.Sprint("among people away, layer ", i), conf(gone, starting(always(2), utc, 1, 0), x.l, starting(always(2), utc, 1, 0)), x.at, layer+min(1, layer+1), x.person)
	}
}

// All sets of layers of six that are on duty, and all sets of persons of six who are away.
func TestWhichLayer(t *testing.T) {
	for on := range 64 {
		for gone := range 64 {
			var layers []api.Layer
			var leaves []api.Edit
			want, person := -1, -1
			for i := range 6 {
				l := always(5 - i)
				if on>>i&1 == 0 {
					l.Start.Day++
				}
				layers = append(layers, l)
				if gone>>i&1 == 1 {
					leaves = append(leaves, leave(5-i, may, may+1))
				}
				if on>>i&1 == 1 && gone>>i&1 == 0 {
					want, person = i, 5-i
				}
			}
			about := fmt.Sprintf("on duty %b, away %b", on, gone)
			c := conf(leaves, layers...)
			expectWho(t, about, c, may, want, person)
			slices.Reverse(c.Schedules[own].Edits)
			expectWho(t, about, c, may, want, person)
			expectSegments(t, about, c, may, may+1, segments(may, may+1, person))
		}
	}
}

func TestNoLayers(t *testing.T) {
	for _, l := range [][]api.Edit{nil, edits(leave(0, 0, most/2)), edits(override(0, 0, most/2), swap(0, 1, 0, most/2))} {
		for _, at := range []int{0, may, most} {
			expectWho(t, "no layers", conf(l), at, -1, -1)
		}
		expectSegments(t, "no layers", conf(l), may, may+longest, segments(may, may+longest, -1))
		expectSegments(t, "no layers", conf(l), may, may, nil)
	}
}

// The person of the topmost layer is away: the next layer below decides, not the next member.
func TestNextLayerBelow(t *testing.T) {
	turns := layer(api.UnitDays, 1, 2, 3)
	for i, x := range []struct {
		edits         []api.Edit
		layer, person int
	}{
		{nil, 2, 2},
		{edits(leave(2, may+5, may+6)), 1, 1},
		{edits(leave(3, may+5, may+6)), 2, 2},
		{edits(leave(2, may+5, may+6), leave(0, may+5, may+6)), 1, 1},
		{edits(leave(2, may+5, may+6), leave(1, may+5, may+6)), 0, 0},
		{edits(leave(1, may+5, may+6), leave(2, may+5, may+6), leave(3, may+5, may+6)), 0, 0},
		{edits(leave(1, may+5, may+6), leave(2, may+5, may+6), leave(0, may+5, may+6)), -1, -1},
		{edits(leave(1, may+5, may+6), leave(0, may+5, may+6)), 2, 2},
		{edits(leave(4, may+5, may+6), leave(5, may+5, may+6), leave(6, may+5, may+6), leave(7, may+5, may+6)), 2, 2},
		// From and To lie at t, before and behind it.
		{edits(leave(2, may+6, may+7)), 2, 2}, {edits(leave(2, may+4, may+5)), 2, 2}, {edits(leave(2, may+4, may+6)), 1, 1}, {edits(leave(2, may+5, may+7)), 1, 1}, {edits(leave(2, may+4, may+7)), 1, 1}, {edits(leave(2, may, may+4)), 2, 2}, {edits(leave(2, may+7, may+9)), 2, 2},
		{edits(leave(2, may+4, may+5), leave(2, may+6, may+7)), 2, 2}, {edits(leave(2, may+4, may+5), leave(2, may+5, may+7)), 1, 1}, {edits(leave(2, may, may+9), leave(2, may+2, may+3)), 1, 1}, {edits(leave(2, may+5, may+6), leave(2, may+5, may+6)), 1, 1}, {edits(leave(2, may+1, may+6), leave(2, may+2, may+8)), 1, 1},
		// Other kinds change nothing.
		{edits(override(0, may+5, may+6)), 2, 2}, {edits(override(-1, may+5, may+6)), 2, 2}, {edits(override(2, may+5, may+6), leave(2, may+5, may+6)), 1, 1}, {edits(leave(2, may+5, may+6), override(2, may+5, may+6)), 1, 1},
		{edits(swap(2, 1, may+5, may+6)), 2, 2}, {edits(swap(2, 1, may+5, may+6), leave(1, may+5, may+6)), 2, 2}, {edits(swap(2, 1, may+5, may+6), leave(2, may+5, may+6)), 1, 1}, {edits(swap(0, 2, may, may+day), swap(2, 0, may+1, may+9)), 2, 2},
	} {
		expectWho(t, fmt.Sprint("case ", i), conf(x.edits, always(0), always(1), turns), may+5, x.layer, x.person)
	}
	// A person of several layers is away from all of them.
	c := conf(edits(leave(2, may+5, may+6)), always(2), always(1), layer(api.UnitDays, 1, 2, 1), layer(api.UnitHours, 1, 2))
	expectWho(t, "before", c, may+4, 3, 2)
	expectWho(t, "away", c, may+5, 1, 1)
	expectWho(t, "behind", c, may+6, 3, 2)
	expectWho(t, "in the other schedules", c, may+5, 1, 1)
	expectWhoOf(t, "another schedule", c, 0, may+5, 0, 7)
	c.Schedules[0].Edits = edits(leave(1, may+5, may+6))
	expectWho(t, "a leave in another schedule", c, may+5, 1, 1)
	// A leave longer than a shift, and one that begins and ends with it.
	c = conf(edits(leave(3, may, may+4*day), leave(2, may+2*day, may+3*day)), always(0), turns)
	for i, want := range []int{2, 0, 0, 0, 2, 3, 2} {
		expectWho(t, "a shift begins", c, may+i*day, want/2, want)
		expectWho(t, "a shift ends", c, may+i*day+day-1, want/2, want)
	}
}

func TestIndexesOfSchedules(t *testing.T) {
	c := conf(nil, always(1), always(2))
	for _, x := range []struct{ schedule, layer, person int }{{-1, -1, -1}, {0, 0, 7}, {1, 1, 2}, {2, -1, -1}, {3, -1, -1}, {4, -1, -1}, {least, -1, -1}, {greatest, -1, -1}} {
		expectWhoOf(t, "three schedules", c, x.schedule, may, x.layer, x.person)
		want := api.OK
		if x.schedule < 0 || x.schedule > 2 {
			want = api.ErrName
			expectError(t, "three schedules", c, x.schedule, may, may, api.ErrName)
			expectError(t, "three schedules, and a wrong range", c, x.schedule, -1, most+1, api.ErrName)
			expectError(t, "three schedules, and a wrong range", c, x.schedule, may, may-1, api.ErrName)
			expectError(t, "three schedules, and a wrong range", c, x.schedule, may, may+longest+1, api.ErrName)
		}
		got, e := stack.Segments(c, x.schedule, may, may+9)
		if e != want || want == api.OK && !slices.Equal(got, segments(may, may+9, x.person)) || want != api.OK && len(got) > 0 {
			t.Errorf("Segments of schedule %d: %v, %d", x.schedule, got, e)
		}
	}
	for i := range 12 {
		c := conf(nil)
		c.Schedules = nil
		for k := range 12 {
			c.Schedules = append(c.Schedules, api.Schedule{Name: fmt.Sprint("s", k)})
		}
		c.Schedules[i].Layers = []api.Layer{always(5)}
		for k := -1; k < 13; k++ {
			layer, person := -1, -1
			if k == i {
				layer, person = 0, 5
			}
			expectWhoOf(t, "twelve schedules", c, k, may, layer, person)
		}
	}
	c.Schedules = nil
	for _, n := range []int{least, -1, 0, 1, greatest} {
		expectWhoOf(t, "no schedules", c, n, may, -1, -1)
		expectError(t, "no schedules", c, n, may, may+1, api.ErrName)
	}
}

func TestInstantsOutOfRange(t *testing.T) {
	c := conf(edits(leave(2, 0, 5), leave(4, 0, 30000)), starting(always(2), west, 1, 0), starting(always(4), east, 1, 0), starting(always(5), utc, 1, 0))
	for _, at := range []int{least, least + 1, -most, -1, most + 1, 2 * most, greatest} {
		expectWho(t, "out of range", c, at, -1, -1)
	}
	for _, x := range []struct{ at, layer, person int }{{0, -1, -1}, {1, -1, -1}, {21599, -1, -1}, {21600, -1, -1}, {29999, -1, -1}, {30000, 1, 4}, {day - 1, 1, 4}, {day, 2, 5}, {day + widest, 2, 5}, {most - 1, 2, 5}, {most, 2, 5}} {
		expectWho(t, "an instant", c, x.at, x.layer, x.person)
	}
	c.Schedules[own].Layers[2] = with(c.Schedules[own].Layers[2], 0, 2*day+46592) // MaxInstant is a Wednesday, 12:56:32.
	expectWho(t, "before the last instant", c, most-1, 2, 5)
	expectWho(t, "the last instant", c, most, 1, 4)
	// Leaves end on the last valid day at the latest.
	end := lastDay*day + day - 1
	c = conf(edits(leave(2, 0, end)), starting(always(1), utc, lastDay, 0), starting(always(2), utc, lastDay, 1))
	expectWho(t, "before the start", c, lastDay*day-1, -1, -1)
	expectWho(t, "the latest start", c, lastDay*day, 0, 1)
	expectWho(t, "the last instant of the leave", c, end-1, 0, 1)
	expectWho(t, "behind the leave", c, end, 1, 2)
}

// Wrong configurations

func TestConfigsThatAreWrong(t *testing.T) {
	for about, change := range map[string]func(c *api.Config){
		"the name of a zone":         func(c *api.Config) { c.Zones[2].Name = "Z" },
		"the offset of a zone":       func(c *api.Config) { c.Zones[0].Offset = widest + 60 },
		"a rule":                     func(c *api.Config) { c.Zones[1].Rules[0].Month = 13 },
		"more than MaxZones":         func(c *api.Config) { c.Zones = slices.Repeat(c.Zones, 5) },
		"the name of a person":       func(c *api.Config) { c.People[3].Name = "" },
		"a person twice":             func(c *api.Config) { c.People[3].Name = "p0" },
		"the zone of a person":       func(c *api.Config) { c.People[0].Zone = 6 },
		"hours":                      func(c *api.Config) { c.People[1].MinRest = 1 },
		"too few people":             func(c *api.Config) { c.People = c.People[:7] },
		"the zone of a calendar":     func(c *api.Config) { c.Calendars[1].Zone = -1 },
		"days that do not ascend":    func(c *api.Config) { c.Calendars[0].Days = []int{5, 5} },
		"the name of a schedule":     func(c *api.Config) { c.Schedules[2].Name = "a b" },
		"a schedule twice":           func(c *api.Config) { c.Schedules[0].Name = "own" },
		"more than MaxSchedules":     func(c *api.Config) { c.Schedules = slices.Repeat(c.Schedules, 5) },
		"more than MaxLayers layers": func(c *api.Config) { c.Schedules[own].Layers = slices.Repeat(c.Schedules[own].Layers, 4) },
		"a layer without members":    func(c *api.Config) { c.Schedules[own].Layers[0].Members = nil },
		"a member who is nobody":     func(c *api.Config) { c.Schedules[own].Layers[1].Members = []int{2, -1} },
		"a layer twice":              func(c *api.Config) { c.Schedules[own].Layers[1].Name = "l0" },
		"windows of a layer":         func(c *api.Config) { c.Schedules[own].Layers[1].Windows = []api.Window{{From: 5, To: 5}} },
		"the mode of a layer":        func(c *api.Config) { c.Schedules[own].Layers[0].Mode = 3 },
		"a layer of another":         func(c *api.Config) { c.Schedules[0].Layers[0].Every = 0 },
		"more than MaxEdits edits":   func(c *api.Config) { c.Schedules[own].Edits = slices.Repeat(c.Schedules[own].Edits, 49) },
		"the kind of an edit":        func(c *api.Config) { c.Schedules[own].Edits[0].Kind = 3 },
		"a leave of nobody":          func(c *api.Config) { c.Schedules[own].Edits[0].A = -1 },
		"an empty leave":             func(c *api.Config) { c.Schedules[own].Edits[0].To = 1 },
		"an edit of another":         func(c *api.Config) { c.Schedules[2].Edits[0].From = -1 },
		"no zones":                   func(c *api.Config) { c.Zones = nil },
		"no people":                  func(c *api.Config) { c.People = nil },
		"one more schedule":          func(c *api.Config) { c.Schedules = append(c.Schedules, api.Schedule{}) },
	} {
		c := conf(edits(leave(0, 1, 2)), always(1), always(2))
		expectWho(t, about, c, may, 1, 2)
		change(&c)
		for _, schedule := range []int{least, -1, 0, 1, 2, 3, 15, greatest} {
			for _, at := range []int{least, -1, 0, may, most, most + 1, greatest} {
				expectWhoOf(t, about, c, schedule, at, -1, -1)
				for _, to := range []int{at, at - 1, at + 1, at + longest, at + longest + 1} {
					expectError(t, about, c, schedule, at, to, api.ErrInvalid)
				}
			}
		}
	}
	for _, n := range []int{-1, 0, 1} {
		expectWhoOf(t, "nothing", api.Config{}, n, may, -1, -1)
		expectError(t, "nothing", api.Config{}, n, may, may+1, api.ErrName)
	}
}

// P12.3

func TestRanges(t *testing.T) {
	for i, x := range []struct {
		from, to int
		e        api.Errno
	}{
		{0, 0, api.OK}, {0, 1, api.OK}, {-1, -1, api.ErrRange}, {-1, 0, api.ErrRange}, {-1, 5, api.ErrRange}, {-5, 6, api.ErrRange}, {least, 0, api.ErrRange}, {least, greatest, api.ErrRange}, {least, least, api.ErrRange},
		{5, 4, api.ErrRange}, {5, -1, api.ErrRange}, {5, least, api.ErrRange}, {may, may - 1, api.ErrRange}, {most, most - 1, api.ErrRange}, {greatest, least, api.ErrRange}, {1, 0, api.ErrRange},
		{0, longest - 1, api.OK}, {0, longest, api.OK}, {0, longest + 1, api.ErrRange}, {1, longest + 1, api.OK}, {may, may + longest, api.OK}, {may, may + longest + 1, api.ErrRange}, {may - 5, may + longest - 5, api.OK}, {0, most, api.ErrRange},
		{most, most, api.OK}, {most - 1, most, api.OK}, {most - longest, most, api.OK}, {most - longest - 1, most, api.ErrRange}, {most, most + 1, api.ErrRange}, {most + 1, most + 1, api.ErrRange}, {most - 5, most + 1, api.ErrRange}, {most - longest + 1, most + 1, api.ErrRange}, {0, most + 1, api.ErrRange}, {greatest, greatest, api.ErrRange}, {0, greatest, api.ErrRange}, {greatest - 1, greatest, api.ErrRange}, {most + 1, most + 2, api.ErrRange}, {most + 1, most, api.ErrRange},
	} {
		for k, layers := range [][]api.Layer{nil, {always(1)}, {starting(layer(api.UnitDays, 3, 0, 1), utc, 1, 0), with(always(2), 0, day)}} {
			about := fmt.Sprintf("range %d, layers %d", i, k)
			c := conf(edits(leave(2, may+week, may+2*week)), layers...)
			expectError(t, about, c, -1, x.from, x.to, api.ErrName)
			expectError(t, about, c, 3, x.from, x.to, api.ErrName)
			if x.e != api.OK {
				expectError(t, about, c, own, x.from, x.to, x.e)
				continue
			}
			expectRange(t, about, c, x.from, x.to)
		}
	}
}

func TestSegmentsOfLayers(t *testing.T) {
	daily, top := layer(api.UnitDays, 1, 0, 1), with(always(2), 9*hour, 17*hour)
	late := starting(always(3), utc, monday+1, hour)
	for i, x := range []struct {
		edits    []api.Edit
		layers   []api.Layer
		from, to int
		want     []api.Segment
	}{
		{nil, []api.Layer{always(1)}, may - 1, may + 1, segments(may-1, may, -1, may, may+1, 1)},
		{nil, []api.Layer{always(1)}, may, may + 1, segments(may, may+1, 1)},
		{nil, []api.Layer{always(1)}, may - 1, may, segments(may-1, may, -1)},
		{nil, []api.Layer{daily}, may + day - 1, may + 2*day + 1, segments(may+day-1, may+day, 0, may+day, may+2*day, 1, may+2*day, may+2*day+1, 0)},
		{nil, []api.Layer{daily}, may + day, may + 2*day, segments(may+day, may+2*day, 1)},
		{nil, []api.Layer{daily, top}, may, may + 2*day, segments(may, may+9*hour, 0, may+9*hour, may+17*hour, 2, may+17*hour, may+day, 0, may+day, may+2*day, 1)},
		{nil, []api.Layer{daily, top}, may + 9*hour, may + 17*hour, segments(may+9*hour, may+17*hour, 2)},
		{nil, []api.Layer{daily, top}, may + 9*hour - 1, may + 9*hour, segments(may+9*hour-1, may+9*hour, 0)},
		{nil, []api.Layer{daily, top}, may + 17*hour, may + 17*hour + 1, segments(may+17*hour, may+17*hour+1, 0)},
		{nil, []api.Layer{top, daily}, may, may + 2*day, segments(may, may+day, 0, may+day, may+2*day, 1)},
		{nil, []api.Layer{top, daily}, may - 5, may, segments(may-5, may, -1)},
		{nil, []api.Layer{daily, late}, may, may + 9*day, segments(may, may+day, 0, may+day, may+day+hour, 1, may+day+hour, may+9*day, 3)},
		{nil, []api.Layer{late, top}, may, may + 2*day, segments(may, may+9*hour, -1, may+9*hour, may+17*hour, 2, may+17*hour, may+day+hour, -1, may+day+hour, may+2*day, 3)},
		{nil, []api.Layer{always(5), moded(always(6), api.ModeOnly, 0), moded(with(always(7), 0, hour), api.ModeNot, 0)}, may, may + 8*day, segments(may, may+2*day, 6, may+2*day, may+3*day, 5, may+3*day, may+4*day, 6, may+4*day, may+7*day, 5, may+7*day, may+7*day+hour, 7, may+7*day+hour, may+8*day, 5)},
		// Neighbours have the same person, from different layers or shifts.
		{nil, []api.Layer{always(2), top}, may, may + day, segments(may, may+day, 2)},
		{nil, []api.Layer{always(2), top, with(always(2), 17*hour, 20*hour)}, may, may + day, segments(may, may+day, 2)},
		{nil, []api.Layer{daily, with(always(1), 20*hour, 24*hour)}, may, may + 2*day, segments(may, may+20*hour, 0, may+20*hour, may+2*day, 1)},
		{nil, []api.Layer{layer(api.UnitDays, 1, 4, 4, 0)}, may, may + 3*day, segments(may, may+2*day, 4, may+2*day, may+3*day, 0)},
		{edits(leave(2, may+9*hour, may+17*hour)), []api.Layer{daily, top}, may, may + day, segments(may, may+day, 0)},
		{edits(leave(3, may, may+9*day)), []api.Layer{always(1), late, top, with(always(3), hour, 3*hour)}, may, may + 2*day, segments(may, may+9*hour, 1, may+9*hour, may+17*hour, 2, may+17*hour, may+2*day, 1)},
		{edits(leave(2, may, may+day)), []api.Layer{top, top, top}, may, may + 8*day, segments(may, may+7*day+9*hour, -1, may+7*day+9*hour, may+7*day+17*hour, 2, may+7*day+17*hour, may+8*day, -1)},
		// Leaves begin and end within the range, at its ends, and outside of it.
		{edits(leave(1, may+5, may+6)), []api.Layer{always(1)}, may, may + 9, segments(may, may+5, 1, may+5, may+6, -1, may+6, may+9, 1)},
		{edits(leave(1, may+5, may+6)), []api.Layer{always(1)}, may + 5, may + 6, segments(may+5, may+6, -1)},
		{edits(leave(1, may+5, may+6)), []api.Layer{always(1)}, may + 4, may + 6, segments(may+4, may+5, 1, may+5, may+6, -1)},
		{edits(leave(1, may+5, may+6)), []api.Layer{always(1)}, may + 5, may + 7, segments(may+5, may+6, -1, may+6, may+7, 1)},
		{edits(leave(1, may+5, may+6)), []api.Layer{always(1)}, may, may + 5, segments(may, may+5, 1)},
		{edits(leave(1, may+5, may+6)), []api.Layer{always(1)}, may + 6, may + 7, segments(may+6, may+7, 1)},
		{edits(leave(1, may-5, may+6)), []api.Layer{always(1)}, may - 7, may + 7, segments(may-7, may+6, -1, may+6, may+7, 1)},
		{edits(leave(1, 0, may+day)), []api.Layer{always(0), always(1)}, may + day - 5, may + day + 5, segments(may+day-5, may+day, 0, may+day, may+day+5, 1)},
		{edits(leave(1, may, may+9*day)), []api.Layer{always(0), always(1)}, may + day, may + 2*day, segments(may+day, may+2*day, 0)},
		{edits(leave(1, may, may+4), leave(1, may+4, may+7)), []api.Layer{always(0), always(1)}, may, may + 9, segments(may, may+7, 0, may+7, may+9, 1)},
		{edits(leave(1, may+3, may+7), leave(1, may, may+4)), []api.Layer{always(0), always(1)}, may, may + 9, segments(may, may+7, 0, may+7, may+9, 1)},
		{edits(leave(1, may+1, may+7), leave(1, may+2, may+4), leave(1, may+1, may+7)), []api.Layer{always(0), always(1)}, may, may + 9, segments(may, may+1, 1, may+1, may+7, 0, may+7, may+9, 1)},
		{edits(leave(1, may+1, may+2), leave(1, may+3, may+4)), []api.Layer{always(0), always(1)}, may, may + 5, segments(may, may+1, 1, may+1, may+2, 0, may+2, may+3, 1, may+3, may+4, 0, may+4, may+5, 1)},
		{edits(leave(1, may+1, may+6), leave(0, may+3, may+8)), []api.Layer{always(0), always(1)}, may, may + 9, segments(may, may+1, 1, may+1, may+3, 0, may+3, may+6, -1, may+6, may+9, 1)},
		{edits(leave(4, may+1, may+6), leave(7, may, may+9)), []api.Layer{always(0), always(1)}, may, may + 9, segments(may, may+9, 1)},
		// Overrides and swaps change nothing.
		{edits(override(4, may+1, may+2), swap(0, 1, may+3, may+4), override(-1, may+5, may+6)), []api.Layer{daily}, may, may + 2*day, segments(may, may+day, 0, may+day, may+2*day, 1)},
		{edits(override(1, may+1, may+2), leave(0, may+2, may+3), swap(0, 1, may+3, may+4)), []api.Layer{daily}, may, may + 9, segments(may, may+2, 0, may+2, may+3, -1, may+3, may+9, 0)},
		// Hours that are leapt over or repeated.
		{nil, []api.Layer{starting(layer(api.UnitDays, 1, 0, 1), europe, 20540, 9000), with(starting(always(2), europe, monday, 0), 6*day+2*hour, 6*day+3*hour)}, spring - hour, spring + 2*day - hour, segments(spring-hour, spring, 0, spring, spring+day-1800, 1, spring+day-1800, spring+2*day-1800-1800, 0)},
		{nil, []api.Layer{starting(layer(api.UnitDays, 1, 0, 1), europe, 20750, 9000), with(starting(always(2), europe, monday, 0), 6*day+2*hour, 6*day+3*hour)}, autumn - 2*hour, autumn + 2*hour, segments(autumn-2*hour, autumn-hour, 0, autumn-hour, autumn+hour, 2, autumn+hour, autumn+2*hour, 1)},
		{edits(leave(2, autumn-1, autumn+1)), []api.Layer{starting(layer(api.UnitDays, 1, 0, 1), europe, 20750, 9000), with(starting(always(2), europe, monday, 0), 6*day+2*hour, 6*day+3*hour)}, autumn - 2*hour, autumn + 2*hour, segments(autumn-2*hour, autumn-hour, 0, autumn-hour, autumn-1, 2, autumn-1, autumn+1, 1, autumn+1, autumn+hour, 2, autumn+hour, autumn+2*hour, 1)},
	} {
		expectSegments(t, fmt.Sprint("case ", i), conf(x.edits, x.layers...), x.from, x.to, x.want)
	}
}

// Of the topmost layer, the person of each second hour is away. So is the one of the next layer below from half past to half past, and a third layer changes at a quarter to: four segments in two hours.
func manySegments() api.Config {
	gone := edits(leave(1, 0, lastDay*day), leave(3, may, may+2*longest))
	return conf(gone, starting(layer(api.UnitHours, 1, 4, 5), utc, monday-1, 2700), starting(layer(api.UnitHours, 1, 2, 3), utc, monday-1, 1800), starting(layer(api.UnitHours, 1, 0, 1), utc, monday-1, 0))
}

func TestMaxSegments(t *testing.T) {
	c := manySegments()
	expectSegments(t, "six hours", c, may, may+6*hour, segments(
		may, may+hour, 0, may+hour, may+hour+1800, 2, may+hour+1800, may+hour+2700, 4, may+hour+2700, may+2*hour, 5,
		may+2*hour, may+3*hour, 0, may+3*hour, may+3*hour+1800, 2, may+3*hour+1800, may+3*hour+2700, 4, may+3*hour+2700, may+4*hour, 5,
		may+4*hour, may+5*hour, 0, may+5*hour, may+5*hour+1800, 2, may+5*hour+1800, may+5*hour+2700, 4, may+5*hour+2700, may+6*hour, 5))
	const full = 8192 * hour
	for _, x := range []struct{ from, to, want int }{
		{may, may + full, 16384}, {may, may + full - 1, 16384}, {may, may + full - 900, 16383}, {may, may + full - 901, 16383}, {may + hour - 1, may + full, 16384}, {may + hour, may + full, 16383}, {may + hour, may + full + hour, 16384}, {may + week, may + week + full, 16384},
	} {
		list, e := stack.Segments(c, own, x.from, x.to)
		if len(list) != x.want || e != api.OK {
			t.Errorf("Segments from %d to %d: %d of them, %d, want %d", x.from, x.to, len(list), e, x.want)
		}
		for i, s := range list {
			if i == 0 && s.From != x.from || i > 0 && (s.From != list[i-1].To || s.Person == list[i-1].Person) || i == len(list)-1 && s.To != x.to || s.From >= s.To {
				t.Fatalf("Segments from %d to %d: %v, number %d", x.from, x.to, s, i)
			}
		}
	}
	for _, x := range []struct{ from, to int }{
		{may, may + full + 1}, {may - 1, may + full}, {may + 1, may + full + 1}, {may + hour - 1, may + full + 1}, {may + hour, may + full + hour + 1}, {may, may + longest - 1}, {may, may + longest}, {may + day, may + day + longest},
	} {
		expectError(t, "too many segments", c, own, x.from, x.to, api.ErrLimit)
	}
	// The other errors come first.
	expectError(t, "too many segments", c, own, may, may+longest+1, api.ErrRange)
	expectError(t, "too many segments", c, 3, may, may+longest, api.ErrName)
	c.People[7].Name = "nobody"
	expectError(t, "too many segments", c, own, may, may+longest, api.ErrInvalid)
}

// What the layers have to say may be much more than the result.
func TestHiddenLayers(t *testing.T) {
	var layers []api.Layer
	for i := range 5 {
		layers = append(layers, starting(layer(api.UnitHours, 1, i, i+1), utc, monday, 600*i))
	}
	expectSegments(t, "hidden layers", conf(nil, append(layers, starting(always(7), utc, monday-1, 0))...), may, may+longest, segments(may, may+longest, 7))
	c := conf(edits(leave(7, may+100*day, may+100*day+1200)), append(layers, starting(always(7), utc, monday-1, 0))...)
	at := may + 100*day
	expectSegments(t, "a leave above hidden layers", c, may, may+longest, segments(may, at, 7, at, at+1200, 5, at+1200, may+longest, 7))
	for i := range layers {
		layers[i].Members = []int{6, 6, 6}
	}
	expectSegments(t, "one person in all layers", conf(nil, layers...), may-1, may+longest-1, segments(may-1, may, -1, may, may+longest-1, 6))
}

// R2

func TestArgumentsAreUnchanged(t *testing.T) {
	c := conf(edits(leave(2, may+5, may+day), override(1, may, may+9), leave(0, may, may+3)), layer(api.UnitDays, 1, 0, 1), with(always(2), 0, day, 3*day, 5*day), moded(always(3), api.ModeOnly, 0))
	// Room behind a list is no place to write to either.
	s := &c.Schedules[own]
	s.Layers = append(make([]api.Layer, 0, 20), s.Layers...)
	s.Edits = append(make([]api.Edit, 0, 20), s.Edits...)
	old := clone(c)
	stack.Away(c.Schedules[own], 2, may)
	stack.Layer(c, own, may)
	stack.Who(c, own, may)
	stack.Segments(c, own, may, may+week)
	if !reflect.DeepEqual(c, old) {
		t.Error("the arguments are changed")
	}
	if room := s.Layers[:20]; !reflect.DeepEqual(room[len(s.Layers):], make([]api.Layer, 20-len(s.Layers))) {
		t.Error("there is something behind the layers")
	}
	if room := s.Edits[:20]; !reflect.DeepEqual(room[len(s.Edits):], make([]api.Edit, 20-len(s.Edits))) {
		t.Error("there is something behind the edits")
	}
}

func TestResultsAreIndependent(t *testing.T) {
	for _, c := range []api.Config{conf(nil), conf(nil, always(1)), conf(nil, layer(api.UnitDays, 1, 0, 1)), conf(edits(leave(1, may+day, may+2*day)), layer(api.UnitDays, 1, 0, 1), with(always(2), 0, day))} {
		list, _ := stack.Segments(c, own, may, may+week)
		want := slices.Clone(list)
		for i := range list {
			list[i] = api.Segment{}
		}
		expectSegments(t, "again", c, may, may+week, want)
	}
}
