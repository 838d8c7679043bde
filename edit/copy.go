package edit

import (
	"slices"

	"pagewatch/api"
)

// copyConfig returns a copy of a configuration that shares no memory with it.
func copyConfig(c api.Config) api.Config {
	return api.Config{
		Zones:     copyEach(c.Zones, copyZone),
		People:    copyEach(c.People, copyPerson),
		Calendars: copyEach(c.Calendars, copyCalendar),
		Schedules: copyEach(c.Schedules, copySchedule),
	}
}

func copyZone(z api.Zone) api.Zone {
	z.Rules = slices.Clone(z.Rules)
	return z
}

func copyPerson(p api.Person) api.Person {
	p.Quiet = slices.Clone(p.Quiet)
	return p
}

func copyCalendar(x api.Calendar) api.Calendar {
	x.Days = slices.Clone(x.Days)
	return x
}

func copySchedule(s api.Schedule) api.Schedule {
	s.Layers = copyEach(s.Layers, copyLayer)
	s.Edits = slices.Clone(s.Edits)
	return s
}

func copyLayer(l api.Layer) api.Layer {
	l.Members = slices.Clone(l.Members)
	l.Windows = slices.Clone(l.Windows)
	return l
}

// copyEach returns a list of copies of all elements.
func copyEach[T any](l []T, copyOne func(T) T) []T {
	l = slices.Clone(l)
	for i, x := range l {
		l[i] = copyOne(x)
	}
	return l
}
