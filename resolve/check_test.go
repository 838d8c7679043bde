package resolve_test

import (
	"fmt"
	"math"
	"slices"
	"strings"
	"testing"

	"pagewatch/api"
	"pagewatch/resolve"
)

// P8.1

// numbered returns n elements, each with a name of its own.
func numbered[T any](n int, element func(name string) T) []T {
	var l []T
	for i := range n {
		l = append(l, element(fmt.Sprintf("x%d", i)))
	}
	return l
}

func newZone(name string) api.Zone         { return api.Zone{Name: name} }
func newPerson(name string) api.Person     { return api.Person{Name: name} }
func newCalendar(name string) api.Calendar { return api.Calendar{Name: name} }
func newSchedule(name string) api.Schedule { return api.Schedule{Name: name} }
func newLayer(name string) api.Layer {
	return api.Layer{Name: name, Start: api.Local{Day: 1}, Every: 1, Members: []int{0}}
}

// ascending returns n days that ascend.
func ascending(n int) []int {
	var l []int
	for i := range n {
		l = append(l, 100+i)
	}
	return l
}

// windows returns n windows that are right if n is from 0 to 14.
func windows(n int) []api.Window {
	var l []api.Window
	for i := range n {
		l = append(l, api.Window{From: 10 * i, To: 10*i + 10})
	}
	return l
}

func TestGoodConfigs(t *testing.T) {
	expectCheck(t, "full", full(), api.OK)
	expectCheck(t, "nothing", api.Config{}, api.OK)
	expectCheck(t, "empty lists", api.Config{Zones: []api.Zone{}, People: []api.Person{}, Calendars: []api.Calendar{}, Schedules: []api.Schedule{}}, api.OK)
	expectCheck(t, "zones alone", api.Config{Zones: full().Zones}, api.OK)
	expectCheck(t, "no people", api.Config{Zones: full().Zones, Calendars: full().Calendars}, api.OK)
	expectCheck(t, "no calendars", api.Config{Zones: full().Zones, People: full().People, Schedules: []api.Schedule{newSchedule("a")}}, api.OK)
	expectCheck(t, "a schedule alone", api.Config{Schedules: []api.Schedule{newSchedule("a")}}, api.OK)
	empty := full()
	empty.Zones[0].Rules, empty.People[0].Quiet, empty.Calendars[1].Days = []api.YearRule{}, []api.Window{}, []int{}
	empty.Schedules[1].Layers, empty.Schedules[1].Edits, empty.Schedules[0].Layers[0].Windows = []api.Layer{}, []api.Edit{}, []api.Window{}
	expectCheck(t, "empty lists within", empty, api.OK)
	edits := full()
	edits.Schedules[1].Edits = []api.Edit{{Kind: api.EditLeave, A: 1, To: 9}, {Kind: api.EditLeave, A: 1, To: 9}, {Kind: api.EditLeave, A: 1, From: 3, To: 5}, {Kind: api.EditSwap, A: 2, B: 0, From: 1, To: 2}}
	expectCheck(t, "edits without layers, which are equal and do not ascend", edits, api.OK)
}

func TestLimitsOfLists(t *testing.T) {
	for name, x := range map[string]struct {
		limit int
		e     api.Errno
		set   func(c *api.Config, n int)
	}{
		"zones":      {16, api.ErrLimit, func(c *api.Config, n int) { c.Zones = numbered(n, newZone) }},
		"people":     {32, api.ErrLimit, func(c *api.Config, n int) { c.People = numbered(n, newPerson) }},
		"calendars":  {8, api.ErrLimit, func(c *api.Config, n int) { c.Calendars = numbered(n, newCalendar) }},
		"schedules":  {12, api.ErrLimit, func(c *api.Config, n int) { c.Schedules = numbered(n, newSchedule) }},
		"layers":     {6, api.ErrLimit, func(c *api.Config, n int) { c.Schedules[0].Layers = numbered(n, newLayer) }},
		"layers 2":   {6, api.ErrLimit, func(c *api.Config, n int) { c.Schedules[2].Layers = numbered(n, newLayer) }},
		"edits":      {48, api.ErrLimit, func(c *api.Config, n int) { c.Schedules[0].Edits = slices.Repeat([]api.Edit{{To: 1}}, n) }},
		"edits 1":    {48, api.ErrLimit, func(c *api.Config, n int) { c.Schedules[1].Edits = slices.Repeat([]api.Edit{{To: 1}}, n) }},
		"days":       {64, api.ErrLimit, func(c *api.Config, n int) { c.Calendars[0].Days = ascending(n) }},
		"days 2":     {64, api.ErrLimit, func(c *api.Config, n int) { c.Calendars[2].Days = ascending(n) }},
		"members":    {12, api.ErrLimit, func(c *api.Config, n int) { c.Schedules[0].Layers[1].Members = slices.Repeat([]int{2}, n) }},
		"members db": {12, api.ErrLimit, func(c *api.Config, n int) { c.Schedules[2].Layers[0].Members = slices.Repeat([]int{0}, n) }},
		"quiet":      {14, api.ErrInvalid, func(c *api.Config, n int) { c.People[0].Quiet = windows(n) }},
		"windows":    {14, api.ErrInvalid, func(c *api.Config, n int) { c.Schedules[0].Layers[2].Windows = windows(n) }},
		"rules":      {16, api.ErrInvalid, func(c *api.Config, n int) { c.Zones[2].Rules = slices.Repeat(europe().Rules[1:], n) }},
	} {
		for _, n := range []int{x.limit - 1, x.limit, x.limit + 1, x.limit + 2, 2 * x.limit, 1000} {
			c := full()
			switch name {
			case "zones":
				c = api.Config{}
			case "people", "calendars":
				c.Schedules = nil
			}
			x.set(&c, n)
			want := api.OK
			if n > x.limit {
				want = x.e
			}
			expectCheck(t, fmt.Sprintf("%d %s", n, name), c, want)
		}
	}
	c := full()
	c.Schedules[2].Layers[0].Members = nil
	expectCheck(t, "no members", c, api.ErrEmpty)
	c.Schedules[2].Layers[0].Members = []int{}
	expectCheck(t, "empty members", c, api.ErrEmpty)
}

// The limits of all four lists of a configuration come ahead of everything else.
func TestLimitsComeFirst(t *testing.T) {
	for i, set := range []func(c *api.Config){
		func(c *api.Config) { c.Zones = append(c.Zones, numbered(14, newZone)...) },
		func(c *api.Config) { c.People = append(c.People, numbered(30, newPerson)...) },
		func(c *api.Config) { c.Calendars = append(c.Calendars, numbered(6, newCalendar)...) },
		func(c *api.Config) { c.Schedules = append(c.Schedules, numbered(10, newSchedule)...) },
	} {
		for _, x := range faults() {
			c := full()
			x.change(&c)
			set(&c)
			expectCheck(t, fmt.Sprintf("list %d and %s", i, x.about), c, api.ErrLimit)
		}
		c := full()
		set(&c)
		expectCheck(t, fmt.Sprintf("list %d", i), c, api.ErrLimit)
	}
}

// renamers returns for each list of full what sets the name of an element.
func renamers() map[string][]func(c *api.Config, name string) {
	all := map[string][]func(c *api.Config, name string){}
	for i := range 3 {
		all["zones"] = append(all["zones"], func(c *api.Config, name string) { c.Zones[i].Name = name })
		all["people"] = append(all["people"], func(c *api.Config, name string) { c.People[i].Name = name })
		all["calendars"] = append(all["calendars"], func(c *api.Config, name string) { c.Calendars[i].Name = name })
		all["schedules"] = append(all["schedules"], func(c *api.Config, name string) { c.Schedules[i].Name = name })
		all["layers"] = append(all["layers"], func(c *api.Config, name string) { c.Schedules[0].Layers[i].Name = name })
	}
	return all
}

func TestNames(t *testing.T) {
	for list, set := range renamers() {
		for i := range set {
			for _, name := range []string{"a", "z", "z9", "a-", "a_b", "a-1_", longest, "zone", "week", "mon", "consent", "nobodys", "nobod", "nobody-"} {
				c := full()
				set[i](&c, name)
				expectCheck(t, fmt.Sprintf("%s %d %q", list, i, name), c, api.OK)
			}
			for _, name := range []string{"", " ", "A", "aB", "7", "1a", "-a", "_a", "a b", "a ", " a", "a.b", "a#", "+01:00", "2026-01-01", "é", "aé", "a\n", "a\x00", "\xff", longest + "x", "x" + longest, strings.Repeat("a", 1000)} {
				c := full()
				set[i](&c, name)
				expectCheck(t, fmt.Sprintf("%s %d %q", list, i, name), c, api.ErrText)
			}
		}
	}
}

func TestEqualNames(t *testing.T) {
	for list, set := range renamers() {
		for i := range set {
			for k := range set {
				if i == k {
					continue
				}
				c := full()
				set[i](&c, "twin")
				expectCheck(t, fmt.Sprintf("%s %d", list, i), c, api.OK)
				set[k](&c, "twin")
				expectCheck(t, fmt.Sprintf("%s %d and %d", list, i, k), c, api.ErrTwice)
				// The earlier one is the first that is wrong.
				set[i](&c, "Twin")
				set[k](&c, "Twin")
				expectCheck(t, fmt.Sprintf("%s %d and %d", list, i, k), c, api.ErrText)
			}
		}
		c := full()
		for i := range set {
			set[i](&c, "triplet")
		}
		expectCheck(t, list+", all of them", c, api.ErrTwice)
		// Letters that differ at the end only make another name.
		c = full()
		for i := range set {
			set[i](&c, longest[:23]+string(rune('a'+i)))
		}
		expectCheck(t, list+", nearly equal", c, api.OK)
	}
}

func TestEqualNamesOfDifferentKinds(t *testing.T) {
	c := full()
	for i, name := range []string{"x", "y", "z"} {
		c.Zones[i].Name, c.People[i].Name, c.Calendars[i].Name, c.Schedules[i].Name, c.Schedules[0].Layers[i].Name = name, name, name, name, name
	}
	c.Schedules[2].Layers[0].Name = "x"
	expectCheck(t, "names of all kinds", c, api.OK)
	// Layers of different schedules, at any index.
	c = full()
	c.Schedules[1].Layers = slices.Clone(c.Schedules[0].Layers)
	c.Schedules[2].Layers = slices.Concat(c.Schedules[0].Layers[1:], c.Schedules[0].Layers[:1])
	expectCheck(t, "layers of three schedules", c, api.OK)
	c.Schedules[2].Layers = append(c.Schedules[2].Layers, c.Schedules[0].Layers[2])
	expectCheck(t, "two layers of the last schedule", c, api.ErrTwice)
}

func TestNobody(t *testing.T) {
	for list, set := range renamers() {
		for i := range set {
			c, want := full(), api.OK
			set[i](&c, "nobody")
			if list == "people" {
				want = api.ErrText
			}
			expectCheck(t, fmt.Sprintf("%s %d", list, i), c, want)
		}
	}
	c := full()
	c.People[0].Name, c.People[1].Name = "nobody", "nobody"
	expectCheck(t, "nobody twice", c, api.ErrText)
}

// indices returns what sets each index of full, and how many elements the list has to which it belongs.
func indices() map[string]struct {
	set    func(c *api.Config, n int)
	length int
} {
	type index = struct {
		set    func(c *api.Config, n int)
		length int
	}
	all := map[string]index{}
	for i := range 3 {
		all[fmt.Sprintf("the zone of person %d", i)] = index{func(c *api.Config, n int) { c.People[i].Zone = n }, 4}
		all[fmt.Sprintf("the zone of calendar %d", i)] = index{func(c *api.Config, n int) { c.Calendars[i].Zone = n }, 4}
		all[fmt.Sprintf("the zone of layer %d", i)] = index{func(c *api.Config, n int) { c.Schedules[0].Layers[i].Zone = n }, 4}
		all[fmt.Sprintf("member %d", i)] = index{func(c *api.Config, n int) { c.Schedules[0].Layers[0].Members[i] = n }, 5}
		all[fmt.Sprintf("the member of schedule 2, %d", i)] = index{func(c *api.Config, n int) { c.Schedules[2].Layers[0].Members[i] = n }, 5}
	}
	other := func(n int) int {
		if n == 4 {
			return 0
		}
		return 4
	}
	all["the calendar of layer 1"] = index{func(c *api.Config, n int) { c.Schedules[0].Layers[1].Calendar = n }, 3}
	all["the calendar of layer 2"] = index{func(c *api.Config, n int) { c.Schedules[0].Layers[2].Calendar = n }, 3}
	all["the calendar of schedule 2"] = index{func(c *api.Config, n int) { c.Schedules[2].Layers[0].Calendar = n }, 3}
	all["a leave"] = index{func(c *api.Config, n int) { c.Schedules[0].Edits[0].A = n }, 5}
	all["a swap"] = index{func(c *api.Config, n int) { c.Schedules[0].Edits[2].A, c.Schedules[0].Edits[2].B = n, other(n) }, 5}
	all["the other one of a swap"] = index{func(c *api.Config, n int) { c.Schedules[0].Edits[2].B, c.Schedules[0].Edits[2].A = n, other(n) }, 5}
	return all
}

func TestIndices(t *testing.T) {
	for about, x := range indices() {
		for _, n := range []int{0, 1, 2, 3, 4, 5, 6, -1, -2, 16, 100, math.MaxInt, math.MinInt, 1 << 32, -1 << 32} {
			c, want := full(), api.OK
			c.Zones = append(c.Zones, newZone("fourth"))
			c.People = append(c.People, newPerson("dan"), newPerson("eve"))
			x.set(&c, n)
			if n < 0 || n >= x.length {
				want = api.ErrName
			}
			expectCheck(t, fmt.Sprintf("%s is %d", about, n), c, want)
		}
	}
	expectCheck(t, "a person without zones", api.Config{People: []api.Person{newPerson("ann")}}, api.ErrName)
	expectCheck(t, "a calendar without zones", api.Config{Calendars: []api.Calendar{newCalendar("c")}}, api.ErrName)
	expectCheck(t, "a layer without zones", api.Config{Schedules: []api.Schedule{{Name: "s", Layers: []api.Layer{newLayer("l")}}}}, api.ErrName)
	expectCheck(t, "a layer without people", api.Config{Zones: full().Zones, Schedules: []api.Schedule{{Name: "s", Layers: []api.Layer{newLayer("l")}}}}, api.ErrName)
	for kind := range 3 {
		expectCheck(t, "an edit without people", api.Config{Schedules: []api.Schedule{{Name: "s", Edits: []api.Edit{{Kind: kind, B: kind / 2, To: 1}}}}}, api.ErrName)
	}
	expectCheck(t, "an edit of nobody without people", api.Config{Schedules: []api.Schedule{{Name: "s", Edits: []api.Edit{{Kind: api.EditOverride, A: -1, To: 1}}}}}, api.OK)
}

func TestOffsets(t *testing.T) {
	for _, n := range []int{0, 60, -60, 120, 3600, -3600, 20700, 64740, 64800, -64740, -64800, 1, -1, 59, -59, 61, -61, 30, -30, 3599, 3601, 64799, -64799, 64801, 64860, -64860, 72000, math.MaxInt, math.MinInt, 1 << 60} {
		want := api.OK
		if n%60 != 0 || n > 64800 || n < -64800 {
			want = api.ErrInvalid
		}
		for i := range 3 {
			c := full()
			c.Zones[i] = api.Zone{Name: c.Zones[i].Name, Offset: n}
			expectCheck(t, fmt.Sprintf("the offset %d of zone %d", n, i), c, want)
			// In one of up to three rules, whose occurrences lie a year or more from each other.
			for _, x := range [][2]int{{1, 0}, {2, 0}, {2, 1}, {3, 0}, {3, 1}, {3, 2}} {
				c := full()
				c.Zones[i].Offset, c.Zones[i].Rules = 0, nil
				for k := range x[0] {
					c.Zones[i].Rules = append(c.Zones[i].Rules, api.YearRule{From: 2000 + k, To: 2000 + k, Month: 5, Week: 1})
				}
				c.Zones[i].Rules[x[1]].Offset = n
				expectCheck(t, fmt.Sprintf("the offset %d of rule %d of zone %d", n, x[1], i), c, want)
			}
		}
	}
}

func TestWrongZones(t *testing.T) {
	good := api.YearRule{From: 2000, To: 2001, Month: 5, Week: 2, Weekday: 3, Second: 7200, Offset: 60}
	for name, change := range map[string]func(r *api.YearRule){
		"From": func(r *api.YearRule) { r.From = 1969 }, "To": func(r *api.YearRule) { r.To = 1999 }, "years": func(r *api.YearRule) { r.To = 2241 }, "Month": func(r *api.YearRule) { r.Month = 13 }, "no month": func(r *api.YearRule) { r.Month = 0 }, "Week": func(r *api.YearRule) { r.Week = 6 }, "no week": func(r *api.YearRule) { r.Week = 0 }, "Weekday": func(r *api.YearRule) { r.Weekday = 7 }, "Second": func(r *api.YearRule) { r.Second = day }, "negative": func(r *api.YearRule) { r.Second = -60 },
	} {
		for i := range 3 {
			c := full()
			c.Zones[i].Offset, c.Zones[i].Rules = 60, []api.YearRule{good}
			expectCheck(t, "a good rule", c, api.OK)
			change(&c.Zones[i].Rules[0])
			expectCheck(t, name, c, api.ErrInvalid)
			c.Zones[i].Rules = []api.YearRule{good, c.Zones[i].Rules[0]}
			expectCheck(t, name+" of the last rule", c, api.ErrInvalid)
		}
	}
	near := full()
	near.Zones[2].Rules = append(slices.Clone(europe().Rules), api.YearRule{From: 2025, To: 2025, Month: 3, Week: 4, Weekday: 2})
	expectCheck(t, "transitions within a week", near, api.ErrInvalid)
	many := full()
	many.Zones[0].Rules = slices.Repeat([]api.YearRule{{From: 1970, To: 2240, Month: 5, Week: 1}}, 3)
	expectCheck(t, "too many occurrences", many, api.ErrInvalid)
}

func TestHours(t *testing.T) {
	for _, n := range []int{0, hour, 2 * hour, 40 * hour, 167 * hour, wholeWk, -1, -hour, -wholeWk, 1, 59, 60, 1800, hour - 1, hour + 1, wholeWk - 1, wholeWk - 60, wholeWk + 1, wholeWk + hour, 2 * wholeWk, math.MaxInt, math.MinInt, math.MaxInt / hour * hour, math.MinInt / hour * hour, 1<<32 + 40*hour} {
		want := api.OK
		if n%hour != 0 || n < 0 || n > wholeWk {
			want = api.ErrRange
		}
		for i := range 3 {
			for _, m := range []int{0, hour, wholeWk} {
				c := full()
				c.People[i].MaxWeek, c.People[i].MinRest = n, m
				expectCheck(t, fmt.Sprintf("MaxWeek %d", n), c, want)
				c.People[i].MaxWeek, c.People[i].MinRest = m, n
				expectCheck(t, fmt.Sprintf("MinRest %d", n), c, want)
			}
		}
	}
}

func TestQuietHoursAndWindows(t *testing.T) {
	for _, x := range []struct {
		l []api.Window
		e api.Errno
	}{
		{nil, api.OK}, {[]api.Window{}, api.OK}, {[]api.Window{{From: 0, To: 1}}, api.OK}, {[]api.Window{{From: 0, To: wholeWk}}, api.OK}, {[]api.Window{{From: wholeWk - 1, To: wholeWk}}, api.OK}, {[]api.Window{{From: 0, To: 5}, {From: 5, To: 6}}, api.OK}, {[]api.Window{{From: 0, To: 5}, {From: 7, To: 9}, {From: 9, To: 100}}, api.OK}, {windows(14), api.OK},
		{[]api.Window{{}}, api.ErrInvalid}, {[]api.Window{{From: -1, To: 1}}, api.ErrInvalid}, {[]api.Window{{From: 5, To: 5}}, api.ErrInvalid}, {[]api.Window{{From: 5, To: 4}}, api.ErrInvalid}, {[]api.Window{{From: 0, To: wholeWk + 1}}, api.ErrInvalid}, {[]api.Window{{From: 0, To: 5}, {From: 4, To: 6}}, api.ErrInvalid}, {[]api.Window{{From: 7, To: 9}, {From: 0, To: 5}}, api.ErrInvalid}, {[]api.Window{{From: 7, To: 9}, {From: 7, To: 9}}, api.ErrInvalid}, {windows(15), api.ErrInvalid}, {[]api.Window{{From: 0, To: 5}, {From: 7, To: math.MaxInt}}, api.ErrInvalid}, {[]api.Window{{From: math.MinInt, To: 5}}, api.ErrInvalid},
	} {
		for i := range 3 {
			c := full()
			c.People[i].Quiet = x.l
			expectCheck(t, fmt.Sprintf("the quiet hours %v of person %d", x.l, i), c, x.e)
			c = full()
			c.Schedules[0].Layers[i].Windows = x.l
			expectCheck(t, fmt.Sprintf("the windows %v of layer %d", x.l, i), c, x.e)
		}
		c := full()
		c.Schedules[2].Layers[0].Windows = x.l
		expectCheck(t, fmt.Sprintf("the windows %v of schedule 2", x.l), c, x.e)
	}
}

func TestDays(t *testing.T) {
	for _, x := range []struct {
		l []int
		e api.Errno
	}{
		{nil, api.OK}, {[]int{0}, api.OK}, {[]int{lastDay}, api.OK}, {[]int{0, 1, lastDay - 1, lastDay}, api.OK}, {[]int{5, 7, 8}, api.OK}, {ascending(64), api.OK},
		{[]int{-1}, api.ErrRange}, {[]int{lastDay + 1}, api.ErrRange}, {[]int{math.MinInt}, api.ErrRange}, {[]int{math.MaxInt}, api.ErrRange}, {[]int{-1, 0}, api.ErrRange}, {[]int{0, lastDay + 1}, api.ErrRange}, {[]int{lastDay, lastDay + 1}, api.ErrRange}, {[]int{3, -5, 9}, api.ErrRange}, {[]int{9 * day}, api.ErrRange},
		{[]int{5, 5}, api.ErrOrder}, {[]int{0, 0}, api.ErrOrder}, {[]int{6, 5}, api.ErrOrder}, {[]int{lastDay, 0}, api.ErrOrder}, {[]int{1, 2, 2}, api.ErrOrder}, {[]int{2, 2, 3}, api.ErrOrder}, {[]int{1, 3, 2}, api.ErrOrder}, {[]int{3, 1, 2}, api.ErrOrder}, {[]int{2, 3, 1}, api.ErrOrder}, {[]int{3, 2, 1}, api.ErrOrder}, {[]int{1, 2, 3, 4, 3, 5, 6}, api.ErrOrder}, {append(ascending(63), 162), api.ErrOrder},
		{[]int{5, 5, -1}, api.ErrRange}, {[]int{lastDay + 1, lastDay + 1}, api.ErrRange}, {[]int{6, 5, lastDay + 1}, api.ErrRange}, {[]int{6, 5, -1, 7}, api.ErrRange},
		{make([]int, 64), api.ErrOrder}, {make([]int, 65), api.ErrLimit}, {ascending(65), api.ErrLimit}, {slices.Repeat([]int{-1}, 65), api.ErrLimit}, {slices.Repeat([]int{-1}, 64), api.ErrRange},
	} {
		for i := range 3 {
			c := full()
			c.Calendars[i].Days = x.l
			expectCheck(t, fmt.Sprintf("the days %v of calendar %d", x.l, i), c, x.e)
		}
	}
}

func TestNumbersOfLayers(t *testing.T) {
	for name, x := range map[string]struct {
		set       func(l *api.Layer, n int)
		low, high int
	}{
		"Day":    {func(l *api.Layer, n int) { l.Start.Day = n }, 1, lastDay},
		"Second": {func(l *api.Layer, n int) { l.Start.Second = n }, 0, day - 1},
		"Unit":   {func(l *api.Layer, n int) { l.Unit = n }, 0, 2},
		"Every":  {func(l *api.Layer, n int) { l.Every = n }, 1, 400},
	} {
		for _, n := range []int{x.low, x.low + 1, x.high - 1, x.high, x.low - 1, x.low - 2, x.high + 1, x.high + 2, -x.high, math.MinInt, math.MaxInt, 1<<32 + x.low, -1<<32 + x.low} {
			want := api.OK
			if n < x.low || n > x.high {
				want = api.ErrRange
			}
			for i := range 3 {
				for unit := range 3 {
					c := full()
					c.Schedules[0].Layers[i].Unit = unit
					x.set(&c.Schedules[0].Layers[i], n)
					expectCheck(t, fmt.Sprintf("%s %d of layer %d", name, n, i), c, want)
				}
			}
			c := full()
			x.set(&c.Schedules[2].Layers[0], n)
			expectCheck(t, fmt.Sprintf("%s %d of schedule 2", name, n), c, want)
		}
	}
}

func TestModes(t *testing.T) {
	for _, mode := range []int{-2, -1, 0, 1, 2, 3, 4, math.MinInt, math.MaxInt} {
		for _, calendar := range []int{-2, -1, 0, 1, 2, 3, 4, 8, math.MinInt, math.MaxInt} {
			for calendars := range 4 {
				want := api.OK
				switch {
				case mode < 0 || mode > 2:
					want = api.ErrRange
				case mode > 0 && (calendar < 0 || calendar >= calendars):
					want = api.ErrName
				case mode == 0 && calendar != 0:
					want = api.ErrRange
				}
				c := full()
				c.Calendars = c.Calendars[:calendars]
				layers := c.Schedules[0].Layers
				c.Schedules = c.Schedules[:1]
				for i := range layers {
					layers[i].Mode, layers[i].Calendar = api.ModeNone, 0
				}
				for i := range layers {
					layers[i].Mode, layers[i].Calendar = mode, calendar
					expectCheck(t, fmt.Sprintf("mode %d, calendar %d of %d, layer %d", mode, calendar, calendars, i), c, want)
					layers[i].Mode, layers[i].Calendar = api.ModeNone, 0
				}
			}
		}
	}
}

func TestPeopleOfEdits(t *testing.T) {
	pool := []int{-2, -1, 0, 1, 2, 3, 4, math.MinInt, math.MaxInt}
	for _, kind := range []int{-1, api.EditLeave, api.EditOverride, api.EditSwap, 3, math.MinInt, math.MaxInt} {
		for _, a := range pool {
			for _, b := range pool {
				isA, isB := a >= 0 && a < 3, b >= 0 && b < 3
				want := api.OK
				switch kind {
				case api.EditLeave:
					if !isA {
						want = api.ErrName
					} else if b != 0 {
						want = api.ErrRange
					}
				case api.EditOverride:
					if !isA && a != -1 {
						want = api.ErrName
					} else if b != 0 {
						want = api.ErrRange
					}
				case api.EditSwap:
					if !isA || !isB {
						want = api.ErrName
					} else if a == b {
						want = api.ErrTwice
					}
				default:
					want = api.ErrRange
				}
				for i := range 3 {
					c := full()
					c.Schedules[0].Edits[i] = api.Edit{Kind: kind, A: a, B: b, From: 7, To: 8}
					expectCheck(t, fmt.Sprintf("edit %d of kind %d by %d and %d", i, kind, a, b), c, want)
				}
				c := full()
				c.Schedules[2].Edits[0] = api.Edit{Kind: kind, A: a, B: b, From: 7, To: 8}
				expectCheck(t, fmt.Sprintf("the edit of schedule 2 of kind %d by %d and %d", kind, a, b), c, want)
			}
		}
	}
}

func TestTimesOfEdits(t *testing.T) {
	pool := []int{math.MinInt, -end, -day, -1, 0, 1, 2, day - 1, day, lastDay * day, end - 2, end - 1, end, end + 1, end + day, api.MaxInstant, api.MaxInstant + 1, math.MaxInt - 1, math.MaxInt}
	for _, from := range pool {
		for _, to := range pool {
			want := api.OK
			switch {
			case from < 0 || to < 0 || to >= end:
				want = api.ErrRange
			case from >= to:
				want = api.ErrOrder
			}
			for kind := range 3 {
				c := full()
				c.Schedules[0].Edits[1] = api.Edit{Kind: kind, A: 1, From: from, To: to}
				expectCheck(t, fmt.Sprintf("kind %d from %d to %d", kind, from, to), c, want)
			}
		}
	}
}

// fault is a change that makes full wrong, whatever other faults it has.
type fault struct {
	about  string
	change func(c *api.Config)
	want   api.Errno
}

// faults returns the faults of everything in full.
func faults() []fault {
	var all []fault
	add := func(want api.Errno, about string, change func(c *api.Config)) {
		all = append(all, fault{about, change, want})
	}
	for i := range 3 {
		addFaultsOfLists(add, i)
	}
	for _, x := range [][2]int{{0, 0}, {0, 1}, {0, 2}, {2, 0}} {
		addFaultsOfLayers(add, x[0], x[1])
	}
	for _, x := range [][2]int{{0, 0}, {0, 2}, {2, 0}} {
		addFaultsOfEdits(add, x[0], x[1])
	}
	return all
}

// addFaultsOfLists adds the faults of the elements with an index, other than those of layers and edits.
func addFaultsOfLists(add func(want api.Errno, about string, change func(c *api.Config)), i int) {
	before := (i + 2) % 3
	add(api.ErrText, fmt.Sprint("the name of zone ", i), func(c *api.Config) { c.Zones[i].Name = "Zone" })
	add(api.ErrTwice, fmt.Sprint("the equal name of zone ", i), func(c *api.Config) { c.Zones[i].Name = c.Zones[before].Name })
	add(api.ErrInvalid, fmt.Sprint("the offset of zone ", i), func(c *api.Config) { c.Zones[i].Offset++ })
	add(api.ErrInvalid, fmt.Sprint("the rules of zone ", i), func(c *api.Config) { c.Zones[i].Rules = append([]api.YearRule{{}}, c.Zones[i].Rules...) })
	add(api.ErrText, fmt.Sprint("the name of person ", i), func(c *api.Config) { c.People[i].Name = "" })
	add(api.ErrText, fmt.Sprint("the person nobody ", i), func(c *api.Config) { c.People[i].Name = "nobody" })
	add(api.ErrTwice, fmt.Sprint("the equal name of person ", i), func(c *api.Config) { c.People[i].Name = c.People[before].Name })
	add(api.ErrName, fmt.Sprint("the zone of person ", i), func(c *api.Config) { c.People[i].Zone = 3 })
	add(api.ErrInvalid, fmt.Sprint("the quiet hours of person ", i), func(c *api.Config) { c.People[i].Quiet = append(c.People[i].Quiet, api.Window{}) })
	add(api.ErrRange, fmt.Sprint("the week of person ", i), func(c *api.Config) { c.People[i].MaxWeek = -hour })
	add(api.ErrRange, fmt.Sprint("the rest of person ", i), func(c *api.Config) { c.People[i].MinRest = 5 })
	add(api.ErrText, fmt.Sprint("the name of calendar ", i), func(c *api.Config) { c.Calendars[i].Name = "-" })
	add(api.ErrTwice, fmt.Sprint("the equal name of calendar ", i), func(c *api.Config) { c.Calendars[i].Name = c.Calendars[before].Name })
	add(api.ErrName, fmt.Sprint("the zone of calendar ", i), func(c *api.Config) { c.Calendars[i].Zone = -1 })
	add(api.ErrLimit, fmt.Sprint("too many days of calendar ", i), func(c *api.Config) { c.Calendars[i].Days = append(ascending(65), c.Calendars[i].Days...) })
	add(api.ErrLimit, fmt.Sprint("too many equal days of calendar ", i), func(c *api.Config) { c.Calendars[i].Days = append(c.Calendars[i].Days, make([]int, 65)...) })
	add(api.ErrRange, fmt.Sprint("a day of calendar ", i), func(c *api.Config) { c.Calendars[i].Days = append(c.Calendars[i].Days, lastDay+1) })
	add(api.ErrOrder, fmt.Sprint("the order of calendar ", i), func(c *api.Config) { c.Calendars[i].Days = append([]int{7, 7}, c.Calendars[i].Days...) })
	add(api.ErrText, fmt.Sprint("the name of schedule ", i), func(c *api.Config) { c.Schedules[i].Name = "a b" })
	add(api.ErrTwice, fmt.Sprint("the equal name of schedule ", i), func(c *api.Config) { c.Schedules[i].Name = c.Schedules[before].Name })
	add(api.ErrLimit, fmt.Sprint("too many layers of schedule ", i), func(c *api.Config) {
		c.Schedules[i].Layers = append(c.Schedules[i].Layers, numbered(7, newLayer)...)
	})
	add(api.ErrLimit, fmt.Sprint("too many edits of schedule ", i), func(c *api.Config) {
		c.Schedules[i].Edits = append(c.Schedules[i].Edits, slices.Repeat([]api.Edit{{To: 1}}, 49)...)
	})
}

// addFaultsOfLayers adds the faults of a layer.
func addFaultsOfLayers(add func(want api.Errno, about string, change func(c *api.Config)), schedule, i int) {
	layer := func(want api.Errno, about string, change func(l *api.Layer)) {
		add(want, fmt.Sprintf("%s of layer %d of schedule %d", about, i, schedule), func(c *api.Config) { change(&c.Schedules[schedule].Layers[i]) })
	}
	layer(api.ErrText, "the name", func(l *api.Layer) { l.Name = longest + "x" })
	add(api.ErrTwice, fmt.Sprintf("the equal name of layer %d of schedule %d", i, schedule), func(c *api.Config) {
		l := slices.Clone(c.Schedules[schedule].Layers)
		twin := newLayer(l[i].Name)
		c.Schedules[schedule].Layers = slices.Insert(l, i+1, twin)
	})
	layer(api.ErrName, "the zone", func(l *api.Layer) { l.Zone = 3 })
	layer(api.ErrRange, "the day", func(l *api.Layer) { l.Start.Day = 0 })
	layer(api.ErrRange, "the late day", func(l *api.Layer) { l.Start.Day = lastDay + 1 })
	layer(api.ErrRange, "the second", func(l *api.Layer) { l.Start.Second = day })
	layer(api.ErrRange, "the unit", func(l *api.Layer) { l.Unit = 3 })
	layer(api.ErrRange, "the number of units", func(l *api.Layer) { l.Every = 401 })
	layer(api.ErrEmpty, "no members", func(l *api.Layer) { l.Members = nil })
	layer(api.ErrLimit, "too many members", func(l *api.Layer) { l.Members = append(l.Members, make([]int, 13)...) })
	layer(api.ErrName, "a member", func(l *api.Layer) { l.Members = append([]int{-1}, l.Members...) })
	layer(api.ErrName, "the last member", func(l *api.Layer) { l.Members = append(l.Members, 3) })
	layer(api.ErrInvalid, "the windows", func(l *api.Layer) { l.Windows = append(l.Windows, api.Window{From: 9, To: 9}) })
	layer(api.ErrRange, "the mode", func(l *api.Layer) { l.Mode = 3 })
	layer(api.ErrRange, "the mode -1", func(l *api.Layer) { l.Mode = -1 })
	layer(api.ErrName, "the calendar", func(l *api.Layer) { l.Calendar, l.Mode = 3, max(l.Mode, 1) })
	layer(api.ErrRange, "the needless calendar", func(l *api.Layer) { l.Calendar, l.Mode = 1, 0 })
	layer(api.ErrRange, "the needless calendar that is none", func(l *api.Layer) { l.Calendar, l.Mode = -1, 0 })
}

// addFaultsOfEdits adds the faults of an edit.
func addFaultsOfEdits(add func(want api.Errno, about string, change func(c *api.Config)), schedule, i int) {
	edit := func(want api.Errno, about string, change func(x *api.Edit)) {
		add(want, fmt.Sprintf("%s of edit %d of schedule %d", about, i, schedule), func(c *api.Config) { change(&c.Schedules[schedule].Edits[i]) })
	}
	edit(api.ErrRange, "the kind", func(x *api.Edit) { x.Kind = 3 })
	edit(api.ErrRange, "the kind -1", func(x *api.Edit) { x.Kind = -1 })
	edit(api.ErrName, "the person", func(x *api.Edit) { x.A = 3 })
	edit(api.ErrName, "the person -2", func(x *api.Edit) { x.A = -2 })
	edit(api.ErrName, "the leave of nobody", func(x *api.Edit) { x.Kind, x.A = api.EditLeave, -1 })
	edit(api.ErrName, "the other person", func(x *api.Edit) { x.Kind, x.B = api.EditSwap, -1 })
	edit(api.ErrRange, "the needless person", func(x *api.Edit) { x.Kind, x.B = api.EditOverride, 1 })
	edit(api.ErrTwice, "equal persons", func(x *api.Edit) { x.Kind, x.A, x.B = api.EditSwap, 1, 1 })
	edit(api.ErrName, "equal persons that are none", func(x *api.Edit) { x.Kind, x.A, x.B = api.EditSwap, 3, 3 })
	edit(api.ErrRange, "the negative beginning", func(x *api.Edit) { x.From = -1 })
	edit(api.ErrRange, "the negative end", func(x *api.Edit) { x.To = -1 })
	edit(api.ErrRange, "the late end", func(x *api.Edit) { x.To = end })
	edit(api.ErrOrder, "the order", func(x *api.Edit) { x.From, x.To = 9, 9 })
	edit(api.ErrOrder, "the late beginning", func(x *api.Edit) { x.From = api.MaxInstant })
}

func TestFaults(t *testing.T) {
	for _, x := range faults() {
		c := full()
		x.change(&c)
		expectCheck(t, x.about, c, x.want)
	}
}

// Where two faults apply, the error that is named first is returned, within one thing and among things.
func TestTwoFaults(t *testing.T) {
	all := faults()
	for i, x := range all {
		for _, y := range all[:i] {
			for _, both := range [][2]fault{{x, y}, {y, x}} {
				c := full()
				both[0].change(&c)
				both[1].change(&c)
				if got, want := resolve.Check(c), modelCheck(c); got != want || got == api.OK {
					t.Errorf("%s, %s: Check = %d, want %d", both[0].about, both[1].about, got, want)
				}
			}
		}
	}
}

// The pairs of neighbours in the chapter's order, without a model.
func TestOrderOfErrors(t *testing.T) {
	wrong := func(l []api.Window) []api.Window { return append(slices.Clone(l), api.Window{}) }
	for i, x := range []struct {
		change func(c *api.Config)
		want   api.Errno
	}{
		{func(c *api.Config) { c.Zones[1].Name, c.Zones[1].Offset = "", 1 }, api.ErrText}, {func(c *api.Config) { c.Zones[1].Name, c.Zones[1].Offset = "utc", 1 }, api.ErrTwice}, {func(c *api.Config) { c.Zones[1].Offset, c.Zones[2].Name = 1, "" }, api.ErrInvalid}, {func(c *api.Config) { c.Zones[2].Offset, c.People[0].Name = 1, "" }, api.ErrInvalid},
		{func(c *api.Config) { c.People[1].Name, c.People[1].Zone = "nobody", 3 }, api.ErrText}, {func(c *api.Config) { c.People[1].Name, c.People[1].Zone = "ann", 3 }, api.ErrTwice}, {func(c *api.Config) { c.People[1].Zone, c.People[1].Quiet = 3, windows(15) }, api.ErrName}, {func(c *api.Config) { c.People[1].Quiet, c.People[1].MaxWeek = wrong(nil), 1 }, api.ErrInvalid}, {func(c *api.Config) { c.People[1].MinRest, c.People[2].Name = 1, "" }, api.ErrRange}, {func(c *api.Config) { c.People[2].MaxWeek, c.Calendars[0].Name = 1, "" }, api.ErrRange},
		{func(c *api.Config) { c.Calendars[1].Name, c.Calendars[1].Zone = "", 3 }, api.ErrText}, {func(c *api.Config) { c.Calendars[1].Name, c.Calendars[1].Zone = "feasts", 3 }, api.ErrTwice}, {func(c *api.Config) { c.Calendars[1].Zone, c.Calendars[1].Days = 3, make([]int, 65) }, api.ErrName}, {func(c *api.Config) { c.Calendars[1].Days = slices.Repeat([]int{-1}, 65) }, api.ErrLimit}, {func(c *api.Config) { c.Calendars[1].Days = []int{9, 8, -1} }, api.ErrRange}, {func(c *api.Config) { c.Calendars[1].Days, c.Calendars[2].Name = []int{9, 8}, "" }, api.ErrOrder}, {func(c *api.Config) { c.Calendars[2].Days, c.Schedules[0].Name = []int{9, 8}, "" }, api.ErrOrder},
		{func(c *api.Config) { c.Schedules[2].Name, c.Schedules[2].Edits = "", make([]api.Edit, 49) }, api.ErrText}, {func(c *api.Config) { c.Schedules[2].Name, c.Schedules[2].Layers = "web", make([]api.Layer, 7) }, api.ErrTwice}, {func(c *api.Config) { c.Schedules[2].Edits, c.Schedules[2].Layers[0].Name = make([]api.Edit, 49), "" }, api.ErrLimit}, {func(c *api.Config) { c.Schedules[0].Layers[2].Calendar, c.Schedules[0].Edits[0].Kind = 3, 3 }, api.ErrName}, {func(c *api.Config) { c.Schedules[0].Edits[2].To, c.Schedules[1].Name = 9, "" }, api.ErrOrder}, {func(c *api.Config) { c.Schedules[0].Layers[2].Calendar, c.Schedules[2].Layers[0].Name = 3, "" }, api.ErrName},
	} {
		c := full()
		x.change(&c)
		expectCheck(t, fmt.Sprint(i), c, x.want)
	}
	for i, x := range []struct {
		change func(l *api.Layer)
		want   api.Errno
	}{
		{func(l *api.Layer) { l.Name, l.Zone = "", 3 }, api.ErrText}, {func(l *api.Layer) { l.Name, l.Zone = "base", 3 }, api.ErrTwice}, {func(l *api.Layer) { l.Zone, l.Every = 3, 0 }, api.ErrName}, {func(l *api.Layer) { l.Start.Day, l.Members = 0, nil }, api.ErrRange}, {func(l *api.Layer) { l.Every, l.Members = 0, make([]int, 13) }, api.ErrRange}, {func(l *api.Layer) { l.Members, l.Windows = nil, wrong(nil) }, api.ErrEmpty}, {func(l *api.Layer) { l.Members = slices.Repeat([]int{-1}, 13) }, api.ErrLimit}, {func(l *api.Layer) { l.Members, l.Windows = []int{0, 3}, wrong(nil) }, api.ErrName}, {func(l *api.Layer) { l.Windows, l.Mode = wrong(nil), 3 }, api.ErrInvalid}, {func(l *api.Layer) { l.Windows, l.Mode, l.Calendar = wrong(nil), 1, 3 }, api.ErrInvalid}, {func(l *api.Layer) { l.Mode, l.Calendar = 3, 3 }, api.ErrRange}, {func(l *api.Layer) { l.Mode, l.Calendar = -1, -1 }, api.ErrRange},
	} {
		c := full()
		x.change(&c.Schedules[0].Layers[1])
		expectCheck(t, fmt.Sprintf("layer %d", i), c, x.want)
	}
	for _, x := range []struct {
		x    api.Edit
		want api.Errno
	}{
		{api.Edit{Kind: 3, A: -1, B: -1, From: -1}, api.ErrRange}, {api.Edit{Kind: -1, A: 7}, api.ErrRange}, {api.Edit{A: 3, B: 1}, api.ErrName}, {api.Edit{A: -1, From: -1}, api.ErrName}, {api.Edit{Kind: 1, A: -2, B: 1}, api.ErrName}, {api.Edit{Kind: 2, A: 3, B: 3}, api.ErrName}, {api.Edit{Kind: 2, A: -1, B: -1}, api.ErrName}, {api.Edit{Kind: 2, A: 1, B: 3, From: -1}, api.ErrName}, {api.Edit{A: 1, B: 1, From: 5, To: 5}, api.ErrRange}, {api.Edit{Kind: 1, A: -1, B: -1, From: 5, To: 5}, api.ErrRange}, {api.Edit{Kind: 2, A: 1, B: 1, From: -1}, api.ErrTwice}, {api.Edit{Kind: 2, From: 5, To: 5}, api.ErrTwice}, {api.Edit{From: end + 1, To: end}, api.ErrRange}, {api.Edit{From: -1, To: -1}, api.ErrRange}, {api.Edit{From: 5, To: -1}, api.ErrRange}, {api.Edit{From: end, To: end - 1}, api.ErrOrder}, {api.Edit{From: math.MaxInt, To: 0}, api.ErrOrder},
	} {
		c := full()
		c.Schedules[2].Edits[0] = x.x
		expectCheck(t, fmt.Sprintf("%+v", x.x), c, x.want)
	}
}

// bounds returns numbers at the bounds of many things, and beyond.
func bounds() []int {
	return []int{0, 1, 2, 3, 4, 5, 6, 7, 8, 11, 12, 13, 15, 16, 31, 32, -1, -2, 59, 60, 61, hour, hour + 60, 399, 400, 401, day - 1, day, day + 1, wholeWk - hour, wholeWk - 1, wholeWk, wholeWk + 1, wholeWk + hour, 1970, 2240, 2241, lastDay, lastDay + 1, 64800, 64860, -64800, end - 1, end, api.MaxInstant, math.MaxInt, math.MinInt}
}

// toldNumbers returns the numbers of a configuration that stand in statements as they are, or as a weekday and a time.
func toldNumbers(c *api.Config) []*int {
	var l []*int
	for i := range c.Zones {
		z := &c.Zones[i]
		l = append(l, &z.Offset)
		for k := range z.Rules {
			r := &z.Rules[k]
			l = append(l, &r.From, &r.To, &r.Second, &r.Offset)
		}
	}
	for i := range c.People {
		for k := range c.People[i].Quiet {
			l = append(l, &c.People[i].Quiet[k].From, &c.People[i].Quiet[k].To)
		}
	}
	for i := range c.Calendars {
		for k := range c.Calendars[i].Days {
			l = append(l, &c.Calendars[i].Days[k])
		}
	}
	for i := range c.Schedules {
		for k := range c.Schedules[i].Layers {
			x := &c.Schedules[i].Layers[k]
			l = append(l, &x.Start.Day, &x.Start.Second, &x.Every)
			for m := range x.Windows {
				l = append(l, &x.Windows[m].From, &x.Windows[m].To)
			}
		}
		for k := range c.Schedules[i].Edits {
			x := &c.Schedules[i].Edits[k]
			l = append(l, &x.From, &x.To)
		}
	}
	return l
}

// numbersOf returns all numbers of a configuration.
func numbersOf(c *api.Config) []*int {
	l := toldNumbers(c)
	for i := range c.Zones {
		for k := range c.Zones[i].Rules {
			r := &c.Zones[i].Rules[k]
			l = append(l, &r.Month, &r.Week, &r.Weekday)
		}
	}
	for i := range c.People {
		l = append(l, &c.People[i].Zone, &c.People[i].MaxWeek, &c.People[i].MinRest)
	}
	for i := range c.Calendars {
		l = append(l, &c.Calendars[i].Zone)
	}
	for i := range c.Schedules {
		for k := range c.Schedules[i].Layers {
			x := &c.Schedules[i].Layers[k]
			l = append(l, &x.Zone, &x.Unit, &x.Calendar, &x.Mode)
			for m := range x.Members {
				l = append(l, &x.Members[m])
			}
		}
		for k := range c.Schedules[i].Edits {
			x := &c.Schedules[i].Edits[k]
			l = append(l, &x.Kind, &x.A, &x.B)
		}
	}
	return l
}

// namesOf returns all names of a configuration.
func namesOf(c *api.Config) []*string {
	var l []*string
	for i := range c.Zones {
		l = append(l, &c.Zones[i].Name)
	}
	for i := range c.People {
		l = append(l, &c.People[i].Name)
	}
	for i := range c.Calendars {
		l = append(l, &c.Calendars[i].Name)
	}
	for i := range c.Schedules {
		l = append(l, &c.Schedules[i].Name)
		for k := range c.Schedules[i].Layers {
			l = append(l, &c.Schedules[i].Layers[k].Name)
		}
	}
	return l
}

// Mixed configurations, of which some numbers and names are replaced.
func TestMixedConfigs(t *testing.T) {
	next, pool := mixedNumbers(81), bounds()
	var seen [11]int
	for range 30000 {
		c := mixedConfig(next)
		for range next(3) {
			numbers, names := numbersOf(&c), namesOf(&c)
			switch k := next(12); {
			case k == 0 && len(names) > 0:
				*names[next(len(names))] = []string{"", "A", "nobody", longest, longest + "x"}[next(5)]
			case k <= 2 && len(names) > 0:
				*names[next(len(names))] = *names[next(len(names))]
			case k <= 5 && len(numbers) > 0:
				*numbers[next(len(numbers))] += next(3) - 1
			case len(numbers) > 0:
				*numbers[next(len(numbers))] = pool[next(len(pool))]
			}
		}
		want := modelCheck(c)
		if got := resolve.Check(c); got != want {
			t.Fatalf("%+v: Check = %d, want %d", c, got, want)
		}
		seen[want]++
	}
	for _, e := range []api.Errno{api.OK, api.ErrText, api.ErrName, api.ErrTwice, api.ErrRange, api.ErrInvalid, api.ErrOrder} {
		if seen[e] < 100 {
			t.Errorf("too few configurations with the error %d: %v", e, seen)
		}
	}
}
