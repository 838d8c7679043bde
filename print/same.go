package print

import (
	"slices"

	"pagewatch/api"
)

// Same reports whether two configurations are equal in all their parts.
func Same(a, b api.Config) bool {
	return slices.EqualFunc(a.Zones, b.Zones, sameZone) &&
		slices.EqualFunc(a.People, b.People, samePerson) &&
		slices.EqualFunc(a.Calendars, b.Calendars, sameCalendar) &&
		slices.EqualFunc(a.Schedules, b.Schedules, sameSchedule)
}

func sameZone(a, b api.Zone) bool {
	return a.Name == b.Name && a.Offset == b.Offset && slices.Equal(a.Rules, b.Rules)
}

func samePerson(a, b api.Person) bool {
	return a.Name == b.Name && a.Zone == b.Zone && slices.Equal(a.Quiet, b.Quiet) &&
		a.MaxWeek == b.MaxWeek && a.MinRest == b.MinRest && a.Consent == b.Consent
}

func sameCalendar(a, b api.Calendar) bool {
	return a.Name == b.Name && a.Zone == b.Zone && slices.Equal(a.Days, b.Days)
}

func sameSchedule(a, b api.Schedule) bool {
	return a.Name == b.Name && slices.EqualFunc(a.Layers, b.Layers, sameLayer) && slices.Equal(a.Edits, b.Edits)
}

func sameLayer(a, b api.Layer) bool {
	return a.Name == b.Name && a.Zone == b.Zone && a.Start == b.Start && a.Unit == b.Unit && a.Every == b.Every &&
		slices.Equal(a.Members, b.Members) && slices.Equal(a.Windows, b.Windows) &&
		a.Calendar == b.Calendar && a.Mode == b.Mode
}
