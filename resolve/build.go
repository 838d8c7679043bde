package resolve

import (
	"pagewatch/api"
	"pagewatch/syntax"
)

// far is further from 0 than every number of hours, and every time of a window, that Check accepts.
const far = 2 * api.WeekSeconds

// action adds to a configuration what the tokens behind the keyword of a statement say. With an error, it may have added a part of it.
type action func(c *api.Config, l []api.Token) api.Errno

// Build returns the configuration that statements describe, or the line of the first wrong one.
func Build(l []api.Statement) (c api.Config, line int, e api.Errno) {
	all := actions()
	for _, s := range l {
		if !syntax.Form(s.Tokens) {
			return api.Config{}, s.Line, api.ErrText
		}
		if e = all[s.Tokens[0].Text](&c, s.Tokens[1:]); e != api.OK {
			return api.Config{}, s.Line, e
		}
	}
	if e = Check(c); e != api.OK {
		return api.Config{}, 0, e
	}
	return c, 0, api.OK
}

// actions returns what the statements with each keyword do.
func actions() map[string]action {
	return map[string]action{
		"zone":     addZone,
		"rule":     addRule,
		"person":   addPerson,
		"quiet":    addQuiet,
		"calendar": addCalendar,
		"days":     addDays,
		"schedule": addSchedule,
		"layer":    addLayer,
		"member":   addMembers,
		"on":       addWindow,
		"not":      useCalendar(api.ModeNot),
		"only":     useCalendar(api.ModeOnly),
		"leave":    addEdit(api.EditLeave),
		"override": addEdit(api.EditOverride),
		"swap":     addEdit(api.EditSwap),
	}
}

func addZone(c *api.Config, l []api.Token) api.Errno {
	c.Zones = append(c.Zones, api.Zone{Name: l[0].Text, Offset: l[1].Num})
	return api.OK
}

func addRule(c *api.Config, l []api.Token) api.Errno {
	month, isMonth := syntax.Month(l[2].Text)
	ordinal, isOrdinal := syntax.Ordinal(l[3].Text)
	weekday, isWeekday := syntax.Weekday(l[4].Text)
	if !isMonth || !isOrdinal || !isWeekday {
		return api.ErrText
	}
	z := last(c.Zones)
	if z == nil {
		return api.ErrState
	}
	z.Rules = append(z.Rules, api.YearRule{From: l[0].Num, To: l[1].Num, Month: month, Week: ordinal, Weekday: weekday, Second: l[5].Num, Offset: l[6].Num})
	return api.OK
}

func addPerson(c *api.Config, l []api.Token) api.Errno {
	zone, ok := find(c.Zones, zoneName, l[1].Text)
	if !ok {
		return api.ErrName
	}
	p := api.Person{Name: l[0].Text, Zone: zone}
	setOptions(&p, l[2:])
	c.People = append(c.People, p)
	return api.OK
}

// setOptions sets what the options of a person say. A number is cut off together with its word: whatever text it has, it is no option.
func setOptions(p *api.Person, l []api.Token) {
	for len(l) > 0 {
		switch l[0].Text {
		case "week":
			p.MaxWeek, l = hours(l[1]), l[2:]
		case "rest":
			p.MinRest, l = hours(l[1]), l[2:]
		default:
			p.Consent, l = true, l[1:]
		}
	}
}

func addQuiet(c *api.Config, l []api.Token) api.Errno {
	w, ok := window(l)
	if !ok {
		return api.ErrText
	}
	p := last(c.People)
	if p == nil {
		return api.ErrState
	}
	p.Quiet = append(p.Quiet, w)
	return api.OK
}

func addCalendar(c *api.Config, l []api.Token) api.Errno {
	zone, ok := find(c.Zones, zoneName, l[1].Text)
	if !ok {
		return api.ErrName
	}
	c.Calendars = append(c.Calendars, api.Calendar{Name: l[0].Text, Zone: zone})
	return api.OK
}

func addDays(c *api.Config, l []api.Token) api.Errno {
	x := last(c.Calendars)
	if x == nil {
		return api.ErrState
	}
	for _, t := range l {
		x.Days = append(x.Days, t.Num)
	}
	return api.OK
}

func addSchedule(c *api.Config, l []api.Token) api.Errno {
	c.Schedules = append(c.Schedules, api.Schedule{Name: l[0].Text})
	return api.OK
}

func addLayer(c *api.Config, l []api.Token) api.Errno {
	unit, ok := unitOf(l[5].Text)
	if !ok {
		return api.ErrText
	}
	s := last(c.Schedules)
	if s == nil {
		return api.ErrState
	}
	zone, ok := find(c.Zones, zoneName, l[1].Text)
	if !ok {
		return api.ErrName
	}
	start := api.Local{Day: l[2].Num, Second: l[3].Num}
	s.Layers = append(s.Layers, api.Layer{Name: l[0].Text, Zone: zone, Start: start, Unit: unit, Every: l[4].Num})
	return api.OK
}

func addMembers(c *api.Config, l []api.Token) api.Errno {
	layer := lastLayer(c)
	if layer == nil {
		return api.ErrState
	}
	for _, t := range l {
		person, ok := Person(*c, t.Text)
		if !ok {
			return api.ErrName
		}
		layer.Members = append(layer.Members, person)
	}
	return api.OK
}

func addWindow(c *api.Config, l []api.Token) api.Errno {
	w, ok := window(l)
	if !ok {
		return api.ErrText
	}
	layer := lastLayer(c)
	if layer == nil {
		return api.ErrState
	}
	layer.Windows = append(layer.Windows, w)
	return api.OK
}

// useCalendar returns what sets the calendar of a layer, with a mode.
func useCalendar(mode int) action {
	return func(c *api.Config, l []api.Token) api.Errno {
		layer := lastLayer(c)
		if layer == nil || layer.Mode != api.ModeNone {
			return api.ErrState
		}
		calendar, ok := find(c.Calendars, calendarName, l[0].Text)
		if !ok {
			return api.ErrName
		}
		layer.Mode, layer.Calendar = mode, calendar
		return api.OK
	}
}

// addEdit returns what adds an edit of a kind: of one person or two, until the last one of two instants.
func addEdit(kind int) action {
	return func(c *api.Config, l []api.Token) api.Errno {
		s := last(c.Schedules)
		if s == nil {
			return api.ErrState
		}
		names, times := l[:len(l)-2], l[len(l)-2:]
		var people [2]int
		for i, t := range names {
			person, ok := Person(*c, t.Text)
			if kind == api.EditOverride && t.Text == nobody {
				person, ok = -1, true
			}
			if !ok {
				return api.ErrName
			}
			people[i] = person
		}
		s.Edits = append(s.Edits, api.Edit{Kind: kind, A: people[0], B: people[1], From: times[0].Num, To: times[1].Num})
		return api.OK
	}
}

// last returns the last element, and nil if there is none.
func last[T any](l []T) *T {
	if len(l) == 0 {
		return nil
	}
	return &l[len(l)-1]
}

// lastLayer returns the last layer of the last schedule, and nil if there is none.
func lastLayer(c *api.Config) *api.Layer {
	s := last(c.Schedules)
	if s == nil {
		return nil
	}
	return last(s.Layers)
}

// unitOf returns the unit of a word.
func unitOf(word string) (int, bool) {
	switch word {
	case "hours":
		return api.UnitHours, true
	case "days":
		return api.UnitDays, true
	case "weeks":
		return api.UnitWeeks, true
	default:
		return 0, false
	}
}

// window returns the window from a weekday and a time to a weekday and a time.
func window(l []api.Token) (api.Window, bool) {
	first, isFirst := syntax.Weekday(l[0].Text)
	second, isSecond := syntax.Weekday(l[2].Text)
	from := first*api.DaySeconds + near(l[1].Num)
	to := second*api.DaySeconds + near(l[3].Num)
	return api.Window{From: from, To: to}, isFirst && isSecond
}

// hours returns the seconds of a number of hours.
func hours(t api.Token) int {
	return near(t.Num) * hourSeconds
}

// near returns n, or far if n is even further away, on either side: Check refuses both, and what is calculated from it does not overflow.
func near(n int) int {
	return min(max(n, -far), far)
}
