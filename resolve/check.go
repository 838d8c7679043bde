package resolve

import (
	"slices"

	"pagewatch/api"
	"pagewatch/civil"
	"pagewatch/lexer"
	"pagewatch/week"
	"pagewatch/zone"
)

const (
	minuteSeconds = 60
	hourSeconds   = 60 * minuteSeconds
)

// Check returns the first error of a configuration.
func Check(c api.Config) api.Errno {
	if len(c.Zones) > api.MaxZones || len(c.People) > api.MaxPeople || len(c.Calendars) > api.MaxCalendars || len(c.Schedules) > api.MaxSchedules {
		return api.ErrLimit
	}
	for _, list := range []struct {
		length int
		check  func(c api.Config, i int) api.Errno
	}{
		{len(c.Zones), checkZone},
		{len(c.People), checkPerson},
		{len(c.Calendars), checkCalendar},
		{len(c.Schedules), checkSchedule},
	} {
		for i := range list.length {
			if e := list.check(c, i); e != api.OK {
				return e
			}
		}
	}
	return api.OK
}

// checkZone returns the first error of the zone with an index.
func checkZone(c api.Config, i int) api.Errno {
	z := c.Zones[i]
	if e := checkName(c.Zones, zoneName, i); e != api.OK {
		return e
	}
	if zone.Check(z) != api.OK || !hasWholeMinutes(z) {
		return api.ErrInvalid
	}
	return api.OK
}

// checkPerson returns the first error of the person with an index.
func checkPerson(c api.Config, i int) api.Errno {
	p := c.People[i]
	if p.Name == nobody {
		return api.ErrText
	}
	if e := checkName(c.People, personName, i); e != api.OK {
		return e
	}
	switch {
	case !isIndex(c.Zones, p.Zone):
		return api.ErrName
	case week.Check(p.Quiet) != api.OK:
		return api.ErrInvalid
	case !isHours(p.MaxWeek) || !isHours(p.MinRest):
		return api.ErrRange
	default:
		return api.OK
	}
}

// checkCalendar returns the first error of the calendar with an index.
func checkCalendar(c api.Config, i int) api.Errno {
	x := c.Calendars[i]
	if e := checkName(c.Calendars, calendarName, i); e != api.OK {
		return e
	}
	switch {
	case !isIndex(c.Zones, x.Zone):
		return api.ErrName
	case len(x.Days) > api.MaxDays:
		return api.ErrLimit
	case slices.ContainsFunc(x.Days, isNoDay):
		return api.ErrRange
	case !ascend(x.Days):
		return api.ErrOrder
	default:
		return api.OK
	}
}

// checkSchedule returns the first error of the schedule with an index.
func checkSchedule(c api.Config, i int) api.Errno {
	s := c.Schedules[i]
	if e := checkName(c.Schedules, scheduleName, i); e != api.OK {
		return e
	}
	if len(s.Layers) > api.MaxLayers || len(s.Edits) > api.MaxEdits {
		return api.ErrLimit
	}
	for k := range s.Layers {
		if e := checkLayer(c, s.Layers, k); e != api.OK {
			return e
		}
	}
	for _, x := range s.Edits {
		if e := checkEdit(c, x); e != api.OK {
			return e
		}
	}
	return api.OK
}

// checkLayer returns the first error of the layer with an index, among those of its schedule.
func checkLayer(c api.Config, layers []api.Layer, i int) api.Errno {
	l := layers[i]
	if e := checkName(layers, layerName, i); e != api.OK {
		return e
	}
	isNobody := func(member int) bool { return !isIndex(c.People, member) }
	switch {
	case !isIndex(c.Zones, l.Zone):
		return api.ErrName
	case !isRotation(l):
		return api.ErrRange
	case len(l.Members) == 0:
		return api.ErrEmpty
	case len(l.Members) > api.MaxMembers:
		return api.ErrLimit
	case slices.ContainsFunc(l.Members, isNobody):
		return api.ErrName
	case week.Check(l.Windows) != api.OK:
		return api.ErrInvalid
	default:
		return checkMode(c, l)
	}
}

// isRotation reports whether the start and the shifts of a layer are in their ranges.
func isRotation(l api.Layer) bool {
	if l.Start.Day < 1 || isNoDay(l.Start.Day) || l.Start.Second < 0 || l.Start.Second >= api.DaySeconds {
		return false
	}
	switch l.Unit {
	case api.UnitHours, api.UnitDays, api.UnitWeeks:
		return l.Every >= 1 && l.Every <= api.MaxEvery
	default:
		return false
	}
}

// checkMode returns the first error of the use that a layer makes of its calendar.
func checkMode(c api.Config, l api.Layer) api.Errno {
	switch l.Mode {
	case api.ModeNone:
		if l.Calendar != 0 {
			return api.ErrRange
		}
	case api.ModeNot, api.ModeOnly:
		if !isIndex(c.Calendars, l.Calendar) {
			return api.ErrName
		}
	default:
		return api.ErrRange
	}
	return api.OK
}

// checkEdit returns the first error of an edit.
func checkEdit(c api.Config, x api.Edit) api.Errno {
	isOverride, isSwap := x.Kind == api.EditOverride, x.Kind == api.EditSwap
	switch {
	case x.Kind != api.EditLeave && !isOverride && !isSwap:
		return api.ErrRange
	case !isIndex(c.People, x.A) && !(isOverride && x.A == -1):
		return api.ErrName
	case isSwap && !isIndex(c.People, x.B):
		return api.ErrName
	case !isSwap && x.B != 0:
		return api.ErrRange
	case isSwap && x.A == x.B:
		return api.ErrTwice
	case x.From < 0 || x.To < 0 || isNoDay(x.To/api.DaySeconds):
		return api.ErrRange
	case x.From >= x.To:
		return api.ErrOrder
	default:
		return api.OK
	}
}

// checkName returns the error of the name of the element with an index: it is none, or an earlier element has it.
func checkName[T any](l []T, nameOf func(T) string, i int) api.Errno {
	name := nameOf(l[i])
	if !lexer.Name(name) {
		return api.ErrText
	}
	if first, _ := find(l, nameOf, name); first < i {
		return api.ErrTwice
	}
	return api.OK
}

// isIndex reports whether i is an index of l.
func isIndex[T any](l []T, i int) bool {
	return i >= 0 && i < len(l)
}

// hasWholeMinutes reports whether all offsets of a zone are whole minutes.
func hasWholeMinutes(z api.Zone) bool {
	isBroken := func(r api.YearRule) bool { return r.Offset%minuteSeconds != 0 }
	return z.Offset%minuteSeconds == 0 && !slices.ContainsFunc(z.Rules, isBroken)
}

// isHours reports whether seconds are whole hours, at most those of a week.
func isHours(seconds int) bool {
	return seconds >= 0 && seconds <= api.WeekSeconds && seconds%hourSeconds == 0
}

// isNoDay reports whether a day is not that of a valid date.
func isNoDay(day int) bool {
	_, e := civil.DateOf(day)
	return e != api.OK
}

// ascend reports whether each day is less than the next one.
func ascend(days []int) bool {
	for i := 1; i < len(days); i++ {
		if days[i-1] >= days[i] {
			return false
		}
	}
	return true
}
