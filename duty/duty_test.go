package duty_test

import (
	"fmt"
	"math"
	"reflect"
	"slices"
	"testing"

	"pagewatch/api"
	"pagewatch/duty"
	"pagewatch/recur"
	"pagewatch/zone"
)

const (
	hour     = 3600
	day      = 86400
	week     = 604800
	most     = 1 << 33
	longest  = 400 * day
	widest   = 64800
	lastDay  = 98980 // 2240-12-31
	least    = math.MinInt
	greatest = math.MaxInt
	newYear  = 946684800  // 2000-01-01 0:00 UTC
	monday   = 11078      // 2000-05-01
	may      = 957139200  // its beginning in UTC
	spring   = 1774746000 // 2026-03-29 1:00 UTC, a Sunday, on the day 20541
	autumn   = 1792890000 // 2026-10-25 1:00 UTC, a Sunday, on the day 20751
)

// The zones of conf.
const (
	utc    = 0
	europe = 1
	east   = 2 // +18:00
	west   = 3 // -18:00
	leap   = 4 // leaps from the end of 2000-05-01 to 1:00 of the next day
	repeat = 5 // goes back from 0:30 of 2000-05-02 to 23:30 of the day before
)

// on returns a rule for a weekday of the first week of May 2000, which began on a Monday.
func on(weekday, second, offset int) api.YearRule {
	return api.YearRule{From: 2000, To: 2000, Month: 5, Week: 1, Weekday: weekday, Second: second, Offset: offset}
}

// manyTransitions has 640 of them, the most that a zone can have, from 1970 to 2235.
func manyTransitions() api.Zone {
	z := api.Zone{Name: "many"}
	for from, to := 1970, 2049; from < 2240; from, to = from+80, to+80 {
		for month := range 2 {
			z.Rules = append(z.Rules, api.YearRule{From: from, To: min(to, 2235), Month: 4 + 6*month, Week: 1, Weekday: 6, Second: 2 * hour, Offset: hour * (1 - month)})
		}
	}
	z.Rules = append(z.Rules, api.YearRule{From: 1970, To: 2023, Month: 6, Week: 1, Weekday: 6, Second: 2 * hour, Offset: 2 * hour}, api.YearRule{From: 1970, To: 2023, Month: 8, Week: 1, Weekday: 6, Second: 2 * hour, Offset: hour})
	return z
}

// people returns n people with names of their own.
func people(n int) []api.Person {
	var l []api.Person
	for i := range n {
		l = append(l, api.Person{Name: fmt.Sprint("p", i)})
	}
	return l
}

// schedules returns n empty schedules with names of their own.
func schedules(n int) []api.Schedule {
	var l []api.Schedule
	for i := range n {
		l = append(l, api.Schedule{Name: fmt.Sprint("s", i)})
	}
	return l
}

// conf returns a right configuration.
func conf() api.Config {
	return api.Config{
		Zones: []api.Zone{{Name: "utc"},
			{Name: "europe", Offset: hour, Rules: []api.YearRule{{From: 2020, To: 2030, Month: 3, Week: 5, Weekday: 6, Second: 2 * hour, Offset: 2 * hour}, {From: 2020, To: 2030, Month: 10, Week: 5, Weekday: 6, Second: 3 * hour, Offset: hour}}},
			{Name: "east", Offset: widest}, {Name: "west", Offset: -widest},
			{Name: "leap", Rules: []api.YearRule{on(1, 0, hour)}},
			{Name: "repeat", Offset: hour, Rules: []api.YearRule{on(1, 1800, 0)}},
		},
		People:    people(4),
		Calendars: []api.Calendar{{Name: "a", Days: []int{monday, monday + 1, monday + 3, 20541}}, {Name: "b"}},
		Schedules: []api.Schedule{{Name: "alone", Layers: []api.Layer{layer(api.UnitDays, 1, 3)}, Edits: []api.Edit{{From: 1, To: 2}}}, {Name: "other"}},
	}
}

// inZone returns conf with the calendar 0 in another zone.
func inZone(z int) api.Config {
	c := conf()
	c.Calendars[0].Zone = z
	return c
}

// layer returns a layer in the zone utc that starts on Monday, 2000-05-01, at 0:00.
func layer(unit, every int, members ...int) api.Layer {
	return api.Layer{Name: "l", Start: api.Local{Day: monday}, Unit: unit, Every: every, Members: members}
}

// with returns a layer with windows.
func with(l api.Layer, w []api.Window) api.Layer {
	l.Windows = w
	return l
}

// moded returns a layer that uses a calendar.
func moded(l api.Layer, mode, calendar int) api.Layer {
	l.Mode, l.Calendar = mode, calendar
	return l
}

// starting returns a layer in another zone with another start.
func starting(l api.Layer, z, d, second int) api.Layer {
	l.Zone, l.Start = z, api.Local{Day: d, Second: second}
	return l
}

// windows returns the windows whose numbers are given in pairs.
func windows(numbers ...int) []api.Window {
	var l []api.Window
	for i := 0; i+1 < len(numbers); i += 2 {
		l = append(l, api.Window{From: numbers[i], To: numbers[i+1]})
	}
	return l
}

// segments returns the segments whose numbers are given in threes.
func segments(numbers ...int) []api.Segment {
	var l []api.Segment
	for i := 0; i+2 < len(numbers); i += 3 {
		l = append(l, api.Segment{From: numbers[i], To: numbers[i+1], Person: numbers[i+2]})
	}
	return l
}

// expectUnfit makes sure that a layer that does not fit has nobody on duty, and that this is the first error.
func expectUnfit(t *testing.T, about string, c api.Config, l api.Layer) {
	t.Helper()
	for _, at := range []int{least, -1, 0, may, may + 9*hour, spring, most, most + 1, greatest} {
		expectPerson(t, about, c, l, at, -1)
		for _, to := range []int{least, at - 1, at, at + 1, at + longest, at + longest + 1, greatest} {
			expectError(t, about, c, l, at, to, api.ErrInvalid)
		}
	}
}

// P11.1

func TestPersonOfExamples(t *testing.T) {
	c := api.Config{Zones: []api.Zone{{Name: "z"}}, People: people(2), Calendars: []api.Calendar{{Name: "c", Days: []int{11}}}}
	l := api.Layer{Name: "l", Start: api.Local{Day: 4}, Unit: api.UnitWeeks, Every: 1, Members: []int{0, 1}, Windows: windows(9*hour, 17*hour)}
	expectPerson(t, "noon", c, l, 11*day+12*hour, 1)
	expectPerson(t, "evening", c, l, 11*day+18*hour, -1)
	l.Mode = api.ModeNot
	for at := 11 * day; at < 12*day; at += hour / 2 {
		expectPerson(t, "the day of the calendar", c, l, at, -1)
	}
	expectPerson(t, "a week later", c, l, 18*day+12*hour, 0)
	expectPerson(t, "a week earlier", c, l, 4*day+12*hour, 0)
	l.Mode = api.ModeOnly
	expectPerson(t, "noon of the day only", c, l, 11*day+12*hour, 1)
	expectPerson(t, "a week behind the only day", c, l, 18*day+12*hour, -1)
}

func TestInstantsOutOfRange(t *testing.T) {
	for unit := range 3 {
		for _, l := range []api.Layer{layer(unit, 1, 2), starting(layer(unit, 400, 2), east, 1, 0), with(layer(unit, 7, 2), windows(0, week)), moded(layer(unit, 1, 2), api.ModeNot, 0)} {
			for _, at := range []int{least, least + 1, -most, -day, -1, most + 1, most + day, 2 * most, greatest - 1, greatest} {
				expectPerson(t, "out of range", conf(), l, at, -1)
			}
			expectPerson(t, "the first instant", conf(), l, 0, -1)
			expectPerson(t, "the second one", conf(), l, 1, -1)
			expectPerson(t, "the last but one", conf(), l, most-1, 2)
			expectPerson(t, "the last instant", conf(), l, most, 2)
		}
	}
	// MaxInstant is a Wednesday, 12:56:32 in UTC.
	expectPerson(t, "the last instant in a window", conf(), with(layer(0, 1, 3), windows(2*day+46592, 2*day+46593)), most, 3)
	expectPerson(t, "the last instant outside of windows", conf(), with(layer(0, 1, 3), windows(0, 2*day+46592, 2*day+46593, week)), most, -1)
	expectPerson(t, "the last instant on other days", conf(), moded(layer(0, 1, 3), api.ModeOnly, 0), most, -1)
	early := starting(layer(api.UnitDays, 1, 1, 2), east, 1, 0)
	for i, want := range []int{-1, 1, 2, 1} {
		expectPerson(t, "before an early handover", conf(), early, day*i-widest+day-1, want)
		expectPerson(t, "at an early handover", conf(), early, day*i-widest+day, []int{1, 2}[i%2])
	}
	last := starting(layer(api.UnitDays, 1, 1, 2), west, lastDay, day-1)
	at := lastDay*day + day - 1 + widest
	expectPerson(t, "before the latest start", conf(), last, at-1, -1)
	expectPerson(t, "at the latest start", conf(), last, at, 1)
	expectPerson(t, "at its next handover", conf(), last, at+day, 2)
}

func TestPersonAtHandovers(t *testing.T) {
	for i, x := range []struct {
		l       api.Layer
		first   int
		step    int
		members []int
	}{
		{layer(api.UnitHours, 5, 2, 0, 1), may, 5 * hour, []int{2, 0, 1}},
		{layer(api.UnitDays, 1, 3), may, day, []int{3}},
		{layer(api.UnitDays, 2, 3, 0), may, 2 * day, []int{3, 0}},
		{layer(api.UnitWeeks, 1, 0, 1, 1, 2), may, week, []int{0, 1, 1, 2}},
		{layer(api.UnitWeeks, 3, 1, 1), may, 3 * week, []int{1, 1}},
		{starting(layer(api.UnitDays, 1, 2, 1, 0, 1, 3), west, monday, 9*hour+1), may + widest + 9*hour + 1, day, []int{2, 1, 0, 1, 3}},
		{with(layer(api.UnitHours, 400, 0, 1), windows(0, week)), may, 400 * hour, []int{0, 1}},
		{with(layer(api.UnitHours, 1, 0, 1, 2, 3, 0, 1, 2, 3, 0, 1, 2, 3), windows(0, 3*day, 3*day, week)), may, hour, []int{0, 1, 2, 3, 0, 1, 2, 3, 0, 1, 2, 3}},
	} {
		about := fmt.Sprint("layer ", i)
		expectPerson(t, about, conf(), x.l, x.first-1, -1)
		for k := range 30 {
			at, member := x.first+k*x.step, x.members[k%len(x.members)]
			for _, n := range []int{0, 1, x.step / 2, x.step - 1} {
				expectPerson(t, about, conf(), x.l, at+n, member)
			}
		}
	}
}

func TestPersonAtWindows(t *testing.T) {
	for i, x := range []struct {
		w      []api.Window
		inside []int // in pairs, behind a Monday
	}{
		{nil, []int{0, week}},
		{windows(0, week), []int{0, week}},
		{windows(0, 1), []int{0, 1}},
		{windows(week-1, week), []int{week - 1, week}},
		{windows(9*hour, 17*hour), []int{9 * hour, 17 * hour}},
		{windows(9*hour, 17*hour, 17*hour, 18*hour), []int{9 * hour, 18 * hour}},
		{windows(9*hour, 17*hour, 17*hour+1, 18*hour), []int{9 * hour, 17 * hour, 17*hour + 1, 18 * hour}},
		{windows(0, 6*hour, 6*day+22*hour, week), []int{0, 6 * hour, 6*day + 22*hour, week}},
		{windows(day, 2*day, 3*day+5, 5*day-5, 6*day, 6*day+9), []int{day, 2 * day, 3*day + 5, 5*day - 5, 6 * day, 6*day + 9}},
	} {
		l := with(layer(api.UnitWeeks, 1, 2, 3), x.w)
		for k := range 3 {
			end := 0
			for n := 0; n < len(x.inside); n += 2 {
				from, to := x.inside[n], x.inside[n+1]
				about := fmt.Sprintf("windows %d, week %d", i, k)
				for _, second := range []int{from, from + 1, to - 1} {
					if from <= second && second < to {
						expectPerson(t, about, conf(), l, may+k*week+second, 2+k%2)
					}
				}
				for _, second := range []int{end, from - 1} {
					if end <= second && second < from {
						expectPerson(t, about, conf(), l, may+k*week+second, -1)
					}
				}
				end = to
			}
			for _, second := range []int{end, week - 1} {
				if end <= second && second < week {
					expectPerson(t, fmt.Sprintf("windows %d, behind the last one", i), conf(), l, may+k*week+second, -1)
				}
			}
		}
	}
}

func TestPersonOnDays(t *testing.T) {
	for z, offset := range []int{0, hour, widest, -widest} {
		c := inZone(z)
		l := layer(api.UnitWeeks, 400, 3)
		l.Start.Day -= 20
		for d := -3; d < 8; d++ {
			inside := slices.Contains([]int{0, 1, 3}, d)
			midnight := may + d*day - offset
			for _, at := range []int{midnight, midnight + 1, midnight + day/2, midnight + day - 1} {
				about := fmt.Sprintf("zone %d, day %d", z, d)
				persons := map[bool]int{true: 3, false: -1}
				expectPerson(t, about, c, l, at, 3)
				expectPerson(t, about, c, moded(l, api.ModeNot, 0), at, persons[!inside])
				expectPerson(t, about, c, moded(l, api.ModeOnly, 0), at, persons[inside])
				expectPerson(t, about, c, moded(l, api.ModeNot, 1), at, 3)
				expectPerson(t, about, c, moded(l, api.ModeOnly, 1), at, -1)
			}
		}
	}
}

// What fits

func TestConfigsThatAreWrong(t *testing.T) {
	for about, change := range map[string]func(c *api.Config){
		"the name of a zone":         func(c *api.Config) { c.Zones[2].Name = "Z" },
		"a zone twice":               func(c *api.Config) { c.Zones[2].Name = "utc" },
		"the offset of a zone":       func(c *api.Config) { c.Zones[0].Offset = widest + 60 },
		"an odd offset":              func(c *api.Config) { c.Zones[3].Offset = 1 },
		"a rule":                     func(c *api.Config) { c.Zones[4].Rules[0].Month = 13 },
		"the name of a person":       func(c *api.Config) { c.People[3].Name = "nobody" },
		"a person twice":             func(c *api.Config) { c.People[3].Name = "p0" },
		"the zone of a person":       func(c *api.Config) { c.People[0].Zone = 6 },
		"quiet hours":                func(c *api.Config) { c.People[0].Quiet = windows(5, 5) },
		"hours":                      func(c *api.Config) { c.People[1].MinRest = 1 },
		"the name of a calendar":     func(c *api.Config) { c.Calendars[1].Name = "" },
		"the zone of a calendar":     func(c *api.Config) { c.Calendars[1].Zone = -1 },
		"days that do not ascend":    func(c *api.Config) { c.Calendars[0].Days = []int{5, 5} },
		"a day that is too late":     func(c *api.Config) { c.Calendars[1].Days = []int{lastDay + 1} },
		"the name of a schedule":     func(c *api.Config) { c.Schedules[1].Name = "a b" },
		"a schedule twice":           func(c *api.Config) { c.Schedules[1].Name = "alone" },
		"a layer of a schedule":      func(c *api.Config) { c.Schedules[0].Layers[0].Members = nil },
		"an edit of a schedule":      func(c *api.Config) { c.Schedules[0].Edits[0].To = 1 },
		"more than MaxSchedules":     func(c *api.Config) { c.Schedules = schedules(13) },
		"many more schedules":        func(c *api.Config) { c.Schedules = schedules(1000) },
		"more than MaxLayers layers": func(c *api.Config) { c.Schedules[1].Layers = slices.Repeat(c.Schedules[0].Layers, 7) },
		"more than MaxZones":         func(c *api.Config) { c.Zones = slices.Repeat(c.Zones, 3) },
		"no zones":                   func(c *api.Config) { c.Zones = nil },
		"nothing":                    func(c *api.Config) { *c = api.Config{} },
	} {
		c := conf()
		change(&c)
		for _, l := range []api.Layer{layer(api.UnitDays, 1, 2), moded(layer(api.UnitWeeks, 1, 0, 1), api.ModeNot, 0), {}} {
			expectUnfit(t, about, c, l)
		}
	}
	for about, c := range map[string]api.Config{"no zones at all": {People: people(3)}, "no people at all": {Zones: conf().Zones}} {
		expectUnfit(t, about, c, layer(api.UnitDays, 1, 2))
	}
}

func TestLayersThatAreWrong(t *testing.T) {
	set := func(change func(l *api.Layer)) api.Layer {
		l := layer(api.UnitDays, 1, 2, 3)
		change(&l)
		return l
	}
	wrong := map[string]api.Layer{"nothing": {}, "no members": layer(0, 1), "13 members": layer(0, 1, make([]int, 13)...)}
	for _, n := range []int{least, -1, 6, greatest} {
		wrong[fmt.Sprint("the zone ", n)] = set(func(l *api.Layer) { l.Zone = n })
	}
	for _, n := range []int{least, -1, 0, lastDay + 1, 100000, greatest} {
		wrong[fmt.Sprint("the day ", n)] = set(func(l *api.Layer) { l.Start.Day = n })
	}
	for _, n := range []int{least, -1, day, greatest} {
		wrong[fmt.Sprint("the second ", n)] = set(func(l *api.Layer) { l.Start.Second = n })
	}
	for _, n := range []int{least, -1, 3, greatest} {
		wrong[fmt.Sprint("the unit ", n)] = set(func(l *api.Layer) { l.Unit = n })
		wrong[fmt.Sprint("the mode ", n)] = set(func(l *api.Layer) { l.Mode = n })
	}
	for _, n := range []int{least, -1, 0, 401, greatest} {
		wrong[fmt.Sprint("every ", n)] = set(func(l *api.Layer) { l.Every = n })
	}
	for _, n := range []int{least, -1, 4, greatest} {
		wrong[fmt.Sprint("the member ", n)] = set(func(l *api.Layer) { l.Members[0] = n })
		wrong[fmt.Sprint("the last member ", n)] = set(func(l *api.Layer) { l.Members[1] = n })
	}
	for _, n := range []int{least, -1, 2, greatest} {
		wrong[fmt.Sprint("not on the calendar ", n)] = set(func(l *api.Layer) { l.Mode, l.Calendar = api.ModeNot, n })
		wrong[fmt.Sprint("only on the calendar ", n)] = set(func(l *api.Layer) { l.Mode, l.Calendar = api.ModeOnly, n })
	}
	for _, n := range []int{least, -1, 1, 2, greatest} {
		wrong[fmt.Sprint("an unused calendar ", n)] = set(func(l *api.Layer) { l.Calendar = n })
	}
	for i, w := range [][]api.Window{windows(5, 5), windows(-1, 5), windows(0, week+1), windows(5, 9, 8, 10), windows(5, 9, 1, 2), slices.Repeat(windows(0, 1), 15), windows(least, greatest)} {
		wrong[fmt.Sprint("windows ", i)] = set(func(l *api.Layer) { l.Windows = w })
	}
	for _, name := range []string{"", "L", "a b", "a-name-that-is-much-too-long", "é"} {
		wrong["the name "+name] = set(func(l *api.Layer) { l.Name = name })
	}
	for about, l := range wrong {
		expectUnfit(t, about, conf(), l)
		expectUnfit(t, about+", no schedules", api.Config{Zones: conf().Zones, People: people(4), Calendars: conf().Calendars}, l)
	}
	expectPerson(t, "an unchanged layer", conf(), set(func(l *api.Layer) {}), may, 2)
}

func TestLayersThatFit(t *testing.T) {
	full := conf()
	full.Schedules = schedules(12)
	short := conf()
	short.Schedules = schedules(11)
	six := conf()
	for i := range 6 {
		l := layer(0, 1, 0)
		l.Name = fmt.Sprint("l", i)
		six.Schedules[1].Layers = append(six.Schedules[1].Layers, l)
	}
	none := conf()
	none.Schedules = nil
	few := api.Config{Zones: []api.Zone{{Name: "z"}}, People: people(1)}
	for about, x := range map[string]struct {
		c    api.Config
		l    api.Layer
		name string
	}{
		"MaxSchedules":              {full, layer(0, 1, 0), "l"},
		"one less than that":        {short, layer(0, 1, 0), "l"},
		"no schedules":              {none, layer(0, 1, 0), "l"},
		"the name of another layer": {conf(), layer(0, 1, 0), conf().Schedules[0].Layers[0].Name},
		"that of one of six layers": {six, layer(0, 1, 0), "l5"},
		"the name of a schedule":    {conf(), layer(0, 1, 0), "alone"},
		"the name of a zone":        {conf(), layer(0, 1, 0), "utc"},
		"the name nobody":           {conf(), layer(0, 1, 0), "nobody"},
		"one zone and one person":   {few, layer(0, 1, 0), "l"},
		"the latest start":          {conf(), starting(layer(2, 400, 0), 0, lastDay, day-1), "l"},
		"the last indices":          {conf(), moded(starting(layer(1, 1, 3, 3), repeat, 5, 0), api.ModeNot, 1), "l"},
		"12 members":                {conf(), layer(1, 1, 3, 3, 3, 3, 3, 3, 3, 3, 3, 3, 3, 3), "l"},
	} {
		x.l.Name = x.name
		if !wantFits(x.c, x.l) {
			t.Errorf("%s: the model says that it does not fit", about)
			continue
		}
		at, _ := recur.Handover(x.c.Zones[x.l.Zone], x.l, 0)
		expectPerson(t, about, x.c, x.l, at, x.l.Members[0])
		expectSegments(t, about, x.c, x.l, at-1, at+1, segments(at-1, at, -1, at, at+1, x.l.Members[0]))
		expectError(t, about, x.c, x.l, 0, longest+1, api.ErrRange)
	}
	// One that is in the configuration already, also where there are as many as there may be.
	for _, c := range []api.Config{conf(), six, full} {
		for _, s := range c.Schedules {
			for _, l := range s.Layers {
				expectPerson(t, "a layer of the configuration", c, l, may+day, l.Members[0])
			}
		}
	}
}

// P11.2

func TestSegmentsOfHandovers(t *testing.T) {
	daily := layer(api.UnitDays, 1, 0, 1)
	for i, x := range []struct {
		l        api.Layer
		from, to int
		want     []api.Segment
	}{
		{daily, may, may, nil},
		{daily, may, may + 1, segments(may, may+1, 0)},
		{daily, may - 1, may, segments(may-1, may, -1)},
		{daily, may - 1, may + 1, segments(may-1, may, -1, may, may+1, 0)},
		{daily, may, may + day, segments(may, may+day, 0)},
		{daily, may, may + day + 1, segments(may, may+day, 0, may+day, may+day+1, 1)},
		{daily, may + 1, may + day, segments(may+1, may+day, 0)},
		{daily, may + day - 1, may + day, segments(may+day-1, may+day, 0)},
		{daily, may + day, may + day + 1, segments(may+day, may+day+1, 1)},
		{daily, may + day, may + 3*day, segments(may+day, may+2*day, 1, may+2*day, may+3*day, 0)},
		{daily, may - 5*day, may - day, segments(may-5*day, may-day, -1)},
		{daily, may - 5*day, may + 2*day, segments(may-5*day, may, -1, may, may+day, 0, may+day, may+2*day, 1)},
		{daily, 0, 0, nil},
		{daily, 0, 1, segments(0, 1, -1)},
		{daily, 0, longest, segments(0, longest, -1)},
		{daily, most, most, nil},
		{daily, most - 1, most, segments(most-1, most, (most/day-monday)%2)},
		{layer(api.UnitDays, 1, 3), may - 7, may + 9*day, segments(may-7, may, -1, may, may+9*day, 3)},
		{layer(api.UnitDays, 1, 3, 3), may, may + longest, segments(may, may+longest, 3)},
		{layer(api.UnitDays, 1, 3, 3, 2), may, may + 4*day, segments(may, may+2*day, 3, may+2*day, may+3*day, 2, may+3*day, may+4*day, 3)},
		{layer(api.UnitDays, 1, 3, 2, 3), may, may + 4*day, segments(may, may+day, 3, may+day, may+2*day, 2, may+2*day, may+4*day, 3)},
		{layer(api.UnitDays, 1, 3, 2, 3), may + 3*day, may + 5*day, segments(may+3*day, may+4*day, 3, may+4*day, may+5*day, 2)},
		{layer(api.UnitWeeks, 1, 2, 0, 1), may + 20*week, may + 22*week, segments(may+20*week, may+21*week, 1, may+21*week, may+22*week, 2)},
		{layer(api.UnitHours, 9, 2, 0, 1), may + 27*hour, may + 37*hour, segments(may+27*hour, may+36*hour, 2, may+36*hour, may+37*hour, 0)},
		{starting(daily, east, 1, 0), 0, 3 * day, segments(0, 21600, -1, 21600, day+21600, 0, day+21600, 2*day+21600, 1, 2*day+21600, 3*day, 0)},
		{starting(daily, europe, 20540, 9000), spring - hour, spring + 1, segments(spring-hour, spring, 0, spring, spring+1, 1)},
		{starting(daily, europe, 20750, 9000), autumn - day - hour, autumn + day, segments(autumn-day-hour, autumn-day-1800, -1, autumn-day-1800, autumn-1800, 0, autumn-1800, autumn+day, 1)},
		{starting(daily, europe, 20750, 9000), autumn + 1799, autumn + 1801, segments(autumn+1799, autumn+1801, 1)},
		{starting(layer(api.UnitHours, 24, 0, 1), europe, 20540, 9000), spring, spring + hour, segments(spring, spring+1800, 0, spring+1800, spring+hour, 1)},
	} {
		expectSegments(t, fmt.Sprint("case ", i), conf(), x.l, x.from, x.to, x.want)
	}
}

func TestSegmentsOfWindows(t *testing.T) {
	office := with(layer(api.UnitDays, 1, 0, 1), windows(9*hour, 17*hour, day+9*hour, day+17*hour))
	night := with(layer(api.UnitWeeks, 1, 0, 1), windows(0, 6*hour, 6*day+22*hour, week))
	late := with(layer(api.UnitDays, 1, 0, 1), windows(12*hour, day+12*hour))
	for i, x := range []struct {
		l        api.Layer
		from, to int
		want     []api.Segment
	}{
		{office, may, may + 2*day, segments(may, may+9*hour, -1, may+9*hour, may+17*hour, 0, may+17*hour, may+33*hour, -1, may+33*hour, may+41*hour, 1, may+41*hour, may+2*day, -1)},
		{office, may + 9*hour, may + 17*hour, segments(may+9*hour, may+17*hour, 0)},
		{office, may + 9*hour - 1, may + 17*hour + 1, segments(may+9*hour-1, may+9*hour, -1, may+9*hour, may+17*hour, 0, may+17*hour, may+17*hour+1, -1)},
		{office, may + 17*hour, may + 33*hour, segments(may+17*hour, may+33*hour, -1)},
		{office, may + 2*day, may + 7*day, segments(may+2*day, may+7*day, -1)},
		{office, may - week, may, segments(may-week, may, -1)},
		{office, may + 7*day, may + 7*day + 10*hour, segments(may+7*day, may+7*day+9*hour, -1, may+7*day+9*hour, may+7*day+10*hour, 1)},
		{with(office, windows(9*hour, 10*hour, 10*hour, 11*hour)), may, may + day, segments(may, may+9*hour, -1, may+9*hour, may+11*hour, 0, may+11*hour, may+day, -1)},
		{late, may, may + 2*day, segments(may, may+12*hour, -1, may+12*hour, may+day, 0, may+day, may+36*hour, 1, may+36*hour, may+2*day, -1)},
		{starting(late, utc, monday, 15*hour), may, may + 2*day, segments(may, may+15*hour, -1, may+15*hour, may+36*hour, 0, may+36*hour, may+2*day, -1)},
		{starting(late, utc, monday, 10*hour), may + 9*hour, may + 35*hour, segments(may+9*hour, may+12*hour, -1, may+12*hour, may+34*hour, 0, may+34*hour, may+35*hour, 1)},
		{night, may + 6*day, may + 8*day, segments(may+6*day, may+6*day+22*hour, -1, may+6*day+22*hour, may+week, 0, may+week, may+week+6*hour, 1, may+week+6*hour, may+8*day, -1)},
		{starting(night, utc, monday, hour), may + 6*day, may + 8*day, segments(may+6*day, may+6*day+22*hour, -1, may+6*day+22*hour, may+week+hour, 0, may+week+hour, may+week+6*hour, 1, may+week+6*hour, may+8*day, -1)},
		{with(layer(api.UnitDays, 1, 2), windows(0, week)), may - 5, may + 99*day, segments(may-5, may, -1, may, may+99*day, 2)},
		// The window from 2:00 to 3:00 on Sunday is leapt over, and repeated.
		{with(starting(layer(api.UnitWeeks, 1, 2), europe, monday, 0), windows(6*day+2*hour, 6*day+3*hour)), spring - day, spring + day, segments(spring-day, spring+day, -1)},
		{with(starting(layer(api.UnitWeeks, 1, 2), europe, monday, 0), windows(6*day+2*hour, 6*day+3*hour)), autumn - 2*hour, autumn + 2*hour, segments(autumn-2*hour, autumn-hour, -1, autumn-hour, autumn+hour, 2, autumn+hour, autumn+2*hour, -1)},
		{with(starting(layer(api.UnitWeeks, 1, 2), europe, monday, 0), windows(6*day+9000, 6*day+9001)), autumn - 2*hour, autumn + 2*hour, segments(autumn-2*hour, autumn-1800, -1, autumn-1800, autumn-1799, 2, autumn-1799, autumn+1800, -1, autumn+1800, autumn+1801, 2, autumn+1801, autumn+2*hour, -1)},
		{with(starting(layer(api.UnitDays, 1, 2, 3), europe, 20750, 9000), windows(6*day+2*hour, 6*day+3*hour)), autumn - 2*hour, autumn + 2*hour, segments(autumn-2*hour, autumn-hour, -1, autumn-hour, autumn-1800, 2, autumn-1800, autumn+hour, 3, autumn+hour, autumn+2*hour, -1)},
	} {
		expectSegments(t, fmt.Sprint("case ", i), conf(), x.l, x.from, x.to, x.want)
	}
}

func TestSegmentsOfDays(t *testing.T) {
	daily := layer(api.UnitDays, 1, 0, 1)
	not, only := moded(daily, api.ModeNot, 0), moded(daily, api.ModeOnly, 0)
	weekly := layer(api.UnitWeeks, 400, 2)
	weekly.Start.Day -= 7
	for i, x := range []struct {
		zone     int // of the calendar
		l        api.Layer
		from, to int
		want     []api.Segment
	}{
		{utc, not, may, may + 6*day, segments(may, may+2*day, -1, may+2*day, may+3*day, 0, may+3*day, may+4*day, -1, may+4*day, may+5*day, 0, may+5*day, may+6*day, 1)},
		{utc, only, may - day, may + 5*day, segments(may-day, may, -1, may, may+day, 0, may+day, may+2*day, 1, may+2*day, may+3*day, -1, may+3*day, may+4*day, 1, may+4*day, may+5*day, -1)},
		{utc, only, may + day, may + 2*day, segments(may+day, may+2*day, 1)},
		{utc, only, may + 2*day - 1, may + 2*day, segments(may+2*day-1, may+2*day, 1)},
		{utc, only, may + 2*day, may + 2*day + 1, segments(may+2*day, may+2*day+1, -1)},
		{utc, moded(daily, api.ModeNot, 1), may, may + 2*day, segments(may, may+day, 0, may+day, may+2*day, 1)},
		{utc, moded(daily, api.ModeOnly, 1), may, may + 9*day, segments(may, may+9*day, -1)},
		{utc, moded(weekly, api.ModeOnly, 0), may - day, may + 3*day, segments(may-day, may, -1, may, may+2*day, 2, may+2*day, may+3*day, -1)},
		{utc, with(not, windows(2*day+5, 2*day+9, 3*day-7, 4*day+3)), may, may + 5*day, segments(may, may+2*day+5, -1, may+2*day+5, may+2*day+9, 0, may+2*day+9, may+3*day-7, -1, may+3*day-7, may+3*day, 0, may+3*day, may+4*day, -1, may+4*day, may+4*day+3, 0, may+4*day+3, may+5*day, -1)},
		{utc, with(only, windows(2*day+5, 2*day+9, 3*day-7, 4*day+3)), may, may + 5*day, segments(may, may+3*day, -1, may+3*day, may+4*day, 1, may+4*day, may+5*day, -1)},
		{europe, only, may - day, may + 3*day, segments(may-day, may, -1, may, may+day, 0, may+day, may+2*day-hour, 1, may+2*day-hour, may+3*day-hour, -1, may+3*day-hour, may+3*day, 0)},
		{west, only, may, may + 3*day, segments(may, may+widest, -1, may+widest, may+day, 0, may+day, may+2*day, 1, may+2*day, may+2*day+widest, 0, may+2*day+widest, may+3*day, -1)},
		{east, moded(weekly, api.ModeNot, 0), may - day, may + 2*day, segments(may-day, may-widest, 2, may-widest, may+2*day-widest, -1, may+2*day-widest, may+2*day, 2)},
		// Tuesday has 23 hours, and Monday and Tuesday have two parts each.
		{leap, moded(weekly, api.ModeOnly, 0), may - day, may + 3*day, segments(may-day, may, -1, may, may+2*day-hour, 2, may+2*day-hour, may+3*day-hour, -1, may+3*day-hour, may+3*day, 2)},
		{repeat, moded(weekly, api.ModeOnly, 0), may - day, may + 3*day, segments(may-day, may-hour, -1, may-hour, may+2*day, 2, may+2*day, may+3*day, -1)},
	} {
		expectSegments(t, fmt.Sprint("case ", i), inZone(x.zone), x.l, x.from, x.to, x.want)
	}
	for i, x := range []struct {
		zone, day int
		want      []api.Segment
	}{
		{leap, monday, segments(may-2*day, may, -1, may, may+day, 2, may+day, may+3*day, -1)},
		{leap, monday + 1, segments(may-2*day, may+day, -1, may+day, may+2*day-hour, 2, may+2*day-hour, may+3*day, -1)},
		{repeat, monday, segments(may-2*day, may-hour, -1, may-hour, may+day-hour, 2, may+day-hour, may+day-1800, -1, may+day-1800, may+day, 2, may+day, may+3*day, -1)},
		{repeat, monday + 1, segments(may-2*day, may+day-hour, -1, may+day-hour, may+day-1800, 2, may+day-1800, may+day, -1, may+day, may+2*day, 2, may+2*day, may+3*day, -1)},
	} {
		c := inZone(x.zone)
		c.Calendars[0].Days = []int{x.day}
		about := fmt.Sprint("midnight, case ", i)
		expectSegments(t, about, c, moded(weekly, api.ModeOnly, 0), may-2*day, may+3*day, x.want)
		for _, s := range x.want {
			for _, at := range []int{s.From, s.To - 1} {
				expectPerson(t, about, c, moded(weekly, api.ModeOnly, 0), at, s.Person)
				expectPerson(t, about, c, moded(weekly, api.ModeNot, 0), at, 1-s.Person)
			}
		}
	}
}

// The first days of all begin before the instant 0, or behind it, and the last ones end long before MaxInstant.
func TestFirstAndLastDays(t *testing.T) {
	first := moded(starting(layer(api.UnitWeeks, 1, 2), east, 1, 0), api.ModeNot, 0)
	for i, x := range []struct {
		zone int
		want []api.Segment
	}{
		{utc, segments(0, 2*day, -1, 2*day, 3*day, 2, 3*day, 4*day, -1, 4*day, 5*day, 2)},
		{europe, segments(0, 2*day-hour, -1, 2*day-hour, 3*day-hour, 2, 3*day-hour, 4*day-hour, -1, 4*day-hour, 5*day, 2)},
		{east, segments(0, 2*day-widest, -1, 2*day-widest, 3*day-widest, 2, 3*day-widest, 4*day-widest, -1, 4*day-widest, 5*day, 2)},
		{west, segments(0, 21600, -1, 21600, widest, 2, widest, 2*day+widest, -1, 2*day+widest, 3*day+widest, 2, 3*day+widest, 4*day+widest, -1, 4*day+widest, 5*day, 2)},
	} {
		c := inZone(x.zone)
		c.Calendars[0].Days = []int{0, 1, 3, lastDay}
		expectSegments(t, fmt.Sprint("first days, case ", i), c, first, 0, 5*day, x.want)
		expectRange(t, fmt.Sprint("first days, case ", i), c, first, 0, 5*day)
		expectRange(t, fmt.Sprint("the last day, case ", i), c, first, lastDay*day-3*day, lastDay*day+3*day)
		expectRange(t, fmt.Sprint("behind the last day, case ", i), c, first, most-longest, most)
	}
}

func TestRanges(t *testing.T) {
	l := layer(api.UnitDays, 1, 0, 1)
	for i, x := range []struct {
		from, to int
		e        api.Errno
	}{
		{0, 0, api.OK}, {0, 1, api.OK}, {-1, -1, api.ErrRange}, {-1, 0, api.ErrRange}, {-1, 5, api.ErrRange}, {-5, 6, api.ErrRange}, {least, 0, api.ErrRange}, {least, greatest, api.ErrRange},
		{5, 4, api.ErrRange}, {5, -1, api.ErrRange}, {5, least, api.ErrRange}, {may, may - 1, api.ErrRange}, {most, most - 1, api.ErrRange}, {greatest, least, api.ErrRange}, {1, 0, api.ErrRange},
		{0, longest - 1, api.OK}, {0, longest, api.OK}, {0, longest + 1, api.ErrRange}, {1, longest + 1, api.OK}, {may, may + longest, api.OK}, {may, may + longest + 1, api.ErrRange}, {0, most, api.ErrRange},
		{most, most, api.OK}, {most - 1, most, api.OK}, {most - longest, most, api.OK}, {most - longest - 1, most, api.ErrRange}, {most, most + 1, api.ErrRange}, {most + 1, most + 1, api.ErrRange}, {most - 5, most + 1, api.ErrRange}, {0, most + 1, api.ErrRange}, {greatest, greatest, api.ErrRange}, {0, greatest, api.ErrRange}, {greatest - 1, greatest, api.ErrRange},
	} {
		about := fmt.Sprint("range ", i)
		for _, l := range []api.Layer{l, with(l, windows(0, day)), moded(l, api.ModeOnly, 0), moded(l, api.ModeNot, 1), starting(l, utc, lastDay, 0)} {
			if x.e != api.OK {
				expectError(t, about, conf(), l, x.from, x.to, x.e)
				continue
			}
			m := newModel(conf(), l)
			expectSegments(t, about, conf(), l, x.from, x.to, m.segments(m.borders(x.from, x.to)))
		}
		expectError(t, about, conf(), layer(api.UnitDays, 1, 4), x.from, x.to, api.ErrInvalid)
		expectError(t, about, conf(), layer(api.UnitDays, 401, 0), x.from, x.to, api.ErrInvalid)
	}
}

// Segments of hours with 14 windows and a calendar with 64 days are as many as there can be.
func TestLongestResults(t *testing.T) {
	c := conf()
	c.Zones = append(c.Zones, manyTransitions())
	c.Calendars[0].Days = nil
	for i := range 64 {
		c.Calendars[0].Days = append(c.Calendars[0].Days, 365*30+5*i)
	}
	l := layer(api.UnitHours, 1, 0, 1, 2)
	l.Start = api.Local{Day: 5, Second: 1800}
	for i := range 14 {
		l.Windows = append(l.Windows, api.Window{From: i*12*hour + 60, To: i*12*hour + 11*hour})
	}
	for mode := range 3 {
		l.Mode = mode
		for _, x := range []struct{ zone, from, length int }{{europe, 365 * 30 * day, longest}, {europe, spring - 100*day, longest}, {utc, most - longest, longest}, {6, 365 * 30 * day, 9 * day}, {6, most - 9*day, 9 * day}} {
			l.Zone, c.Calendars[0].Zone = x.zone, x.zone
			m := newModel(c, l)
			expectSegments(t, fmt.Sprintf("mode %d: %v", mode, x), c, l, x.from, x.from+x.length, m.segments(m.borders(x.from, x.from+x.length)))
		}
	}
	got, e := duty.Segments(conf(), layer(api.UnitHours, 1, 0, 1), may, may+longest)
	if len(got) != 9600 || e != api.OK {
		t.Errorf("%d segments, %d", len(got), e)
	}
	times, e := duty.Times(conf(), with(layer(api.UnitHours, 1, 0), windows(0, 1, 2, 3, 4, 5, 6, 7, 8, 9, 10, 11, 12, 13, 14, 15, 16, 17, 18, 19, 20, 21, 22, 23, 24, 25, 26, 27)), may, may+longest)
	if len(times) != 58*14 || e != api.OK {
		t.Errorf("%d spans, %d", len(times), e)
	}
}

// Every second of some ranges, with all kinds of borders.
func TestSecondBySecond(t *testing.T) {
	for z := range 6 {
		c := inZone(z)
		for own := range 6 {
			for mode := range 3 {
				l := moded(starting(layer(api.UnitDays, 1, 0, 1), own, monday, 0), mode, 0)
				if own%2 == 1 {
					l.Windows = windows(0, day-1, day+1, 2*day)
				}
				m := newModel(c, l)
				transitions, _ := zone.Transitions(c.Zones[z])
				centres := []int{may, may + day, may - widest + day}
				for _, x := range transitions[:min(len(transitions), 1)] {
					centres = append(centres, x.At, x.At-hour, x.At-1800)
				}
				for _, at := range centres {
					about := fmt.Sprintf("calendar in %d, layer in %d, mode %d", z, own, mode)
					expectSegments(t, about, c, l, at-20, at+20, m.segments(each(at-20, at+20)))
					expectNear(t, about, m, at)
				}
			}
		}
	}
}

// P11.3

func TestMerge(t *testing.T) {
	for i, x := range []struct{ l, want []api.Segment }{
		{nil, nil},
		{[]api.Segment{}, nil},
		{segments(1, 2, 0), segments(1, 2, 0)},
		{segments(2, 2, 0), nil},
		{segments(3, 2, 0), nil},
		{segments(greatest, least, 0), nil},
		{segments(least, greatest, -7), segments(least, greatest, -7)},
		{segments(1, 2, 0, 2, 3, 0), segments(1, 3, 0)},
		{segments(1, 2, 0, 2, 3, 1), segments(1, 2, 0, 2, 3, 1)},
		{segments(1, 2, 0, 2, 3, -1), segments(1, 2, 0, 2, 3, -1)},
		{segments(1, 2, -1, 2, 3, -1), segments(1, 3, -1)},
		{segments(1, 2, 0, 3, 4, 0), segments(1, 2, 0, 3, 4, 0)},
		{segments(1, 3, 0, 2, 4, 0), segments(1, 3, 0, 2, 4, 0)},
		{segments(1, 2, 0, 1, 2, 0), segments(1, 2, 0, 1, 2, 0)},
		{segments(2, 3, 0, 1, 2, 0), segments(2, 3, 0, 1, 2, 0)},
		{segments(2, 3, 0, 1, 2, 0, 2, 3, 0), segments(2, 3, 0, 1, 3, 0)},
		{segments(1, 2, 0, 2, 3, 0, 3, 4, 0, 4, 9, 0), segments(1, 9, 0)},
		{segments(1, 2, 0, 2, 3, 0, 3, 4, 1, 4, 9, 1, 9, 10, 0), segments(1, 3, 0, 3, 9, 1, 9, 10, 0)},
		{segments(1, 2, 0, 2, 3, 0, 4, 5, 0, 5, 6, 0), segments(1, 3, 0, 4, 6, 0)},
		{segments(1, 2, 0, 2, 2, 1, 2, 3, 0), segments(1, 3, 0)},
		{segments(1, 2, 0, 9, 2, 0, 2, 3, 0), segments(1, 3, 0)},
		{segments(1, 2, 0, 2, 1, 0, 1, 3, 0), segments(1, 2, 0, 1, 3, 0)},
		{segments(5, 5, 0, 1, 2, 0, 7, 7, 3, 2, 3, 0, 3, 3, 0), segments(1, 3, 0)},
		{segments(5, 5, 0, 6, 6, 0, 7, 5, 0), nil},
		{segments(-9, -4, 31, -4, 5, 31), segments(-9, 5, 31)},
		{segments(least, 0, 0, 0, greatest, 0), segments(least, greatest, 0)},
		{segments(1, 2, least, 2, 3, least, 3, 4, greatest), segments(1, 3, least, 3, 4, greatest)},
	} {
		before := slices.Clone(x.l)
		if got := duty.Merge(x.l); !slices.Equal(got, x.want) {
			t.Errorf("case %d: %v, want %v", i, got, x.want)
		}
		if !slices.Equal(x.l, before) {
			t.Errorf("case %d: the argument is changed", i)
		}
	}
}

// mergeOnce says what P11.3 says: it removes one empty segment or joins one pair, in any place.
func mergeOnce(next func(n int) int, l []api.Segment) ([]api.Segment, bool) {
	for i, first := range slices.Backward(l) {
		if first.To <= first.From {
			return slices.Delete(slices.Clone(l), i, i+1), true
		}
	}
	start := next(max(len(l), 1))
	for k := range l {
		i := (start + k) % len(l)
		if i+1 < len(l) && l[i].To == l[i+1].From && l[i].Person == l[i+1].Person {
			joined := api.Segment{From: l[i].From, To: l[i+1].To, Person: l[i].Person}
			return slices.Concat(l[:i], []api.Segment{joined}, l[i+2:]), true
		}
	}
	return l, false
}

func TestMixedMerge(t *testing.T) {
	next := mixedNumbers(7)
	for range 20000 {
		var l []api.Segment
		at := next(5)
		for range next(9) {
			to := at + next(4) - next(3)/2
			l = append(l, api.Segment{From: at, To: to, Person: next(2) - next(2)})
			at = to + max(next(6)-4, 0)
		}
		want, more := l, true
		for more {
			want, more = mergeOnce(next, want)
		}
		if got := duty.Merge(l); !slices.Equal(got, want) {
			t.Fatalf("Merge(%v) = %v, want %v", l, got, want)
		}
		if got := duty.Merge(duty.Merge(l)); !slices.Equal(got, want) {
			t.Fatalf("Merge of Merge(%v) = %v, want %v", l, got, want)
		}
	}
}

// R2

func TestArgumentsAreUnchanged(t *testing.T) {
	c, l := conf(), moded(with(layer(api.UnitDays, 1, 0, 1), windows(0, day, 3*day, 5*day)), api.ModeNot, 0)
	// Room behind a list is no place to write to either.
	c.Schedules = append(make([]api.Schedule, 0, 20), c.Schedules...)
	l.Members = append(make([]int, 0, 20), l.Members...)
	oldC, oldL := clone(c), clone(l)
	duty.On(c, l, may)
	duty.Person(c, l, may)
	duty.Times(c, l, may, may+week)
	duty.Segments(c, l, may, may+week)
	l.Mode = api.ModeOnly
	duty.Times(c, l, may, may+week)
	duty.Segments(c, l, may, may+week)
	l.Mode = api.ModeNot
	if !reflect.DeepEqual(c, oldC) || !reflect.DeepEqual(l, oldL) {
		t.Error("the arguments are changed")
	}
	if room := c.Schedules[:20]; !reflect.DeepEqual(room[len(c.Schedules):], make([]api.Schedule, 20-len(c.Schedules))) {
		t.Error("there is something behind the schedules")
	}
}

func TestResultsAreIndependent(t *testing.T) {
	c, l := conf(), layer(api.UnitDays, 1, 0, 1)
	for _, l := range []api.Layer{l, with(l, windows(0, 3*day)), moded(l, api.ModeNot, 0), moded(with(l, windows(0, 3*day)), api.ModeOnly, 0)} {
		times, _ := duty.Times(c, l, may, may+week)
		list, _ := duty.Segments(c, l, may, may+week)
		wantTimes, wantList := slices.Clone(times), slices.Clone(list)
		for i := range times {
			times[i] = api.Span{}
		}
		for i := range list {
			list[i] = api.Segment{}
		}
		expectSegments(t, "again", c, l, may, may+week, wantList)
		if got, _ := duty.Times(c, l, may, may+week); !slices.Equal(got, wantTimes) {
			t.Errorf("Times again: %v", got)
		}
	}
	list := segments(1, 2, 0, 3, 4, 1)
	got := duty.Merge(list)
	got[0] = api.Segment{}
	if !slices.Equal(list, segments(1, 2, 0, 3, 4, 1)) {
		t.Error("Merge returns its argument")
	}
}
