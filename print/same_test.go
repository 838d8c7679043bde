package print_test

import (
	"fmt"
	"math"
	"reflect"
	"slices"
	"testing"

	"pagewatch/api"
	"pagewatch/print"
)

// P9.3

// part is a number, a name, a yes or no, or a list somewhere in a configuration.
type part struct {
	path string
	v    reflect.Value
}

// partsOf returns all parts of a configuration, which can be changed.
func partsOf(c *api.Config) []part {
	var all []part
	var visit func(path string, v reflect.Value)
	visit = func(path string, v reflect.Value) {
		switch v.Kind() {
		case reflect.Struct:
			for i := range v.NumField() {
				visit(path+"."+v.Type().Field(i).Name, v.Field(i))
			}
			return
		case reflect.Slice:
			for i := range v.Len() {
				visit(fmt.Sprintf("%s[%d]", path, i), v.Index(i))
			}
		}
		all = append(all, part{path, v})
	}
	visit("", reflect.ValueOf(c).Elem())
	return all
}

// changes returns what makes another value of a part.
func changes(v reflect.Value) []func() {
	switch v.Kind() {
	case reflect.Bool:
		return []func(){func() { v.SetBool(!v.Bool()) }}
	case reflect.String:
		return []func(){func() { v.SetString(v.String() + "x") }, func() { v.SetString("") }, func() { v.SetString("X" + v.String()[1:]) }, func() { v.SetString(v.String()[1:]) }}
	case reflect.Slice:
		return changesOfList(v)
	default:
		return []func(){func() { v.SetInt(v.Int() + 1) }, func() { v.SetInt(v.Int() - 1) }, func() { v.SetInt(^v.Int()) }, func() { v.SetInt(v.Int() ^ math.MinInt) }, func() { v.SetInt(v.Int() + 1<<32) }}
	}
}

// changesOfList returns what makes another list: shorter ones, longer ones, and one in another order.
func changesOfList(v reflect.Value) []func() {
	all := []func(){func() { v.Set(reflect.Append(v, reflect.Zero(v.Type().Elem()))) }}
	if n := v.Len(); n > 0 {
		all = append(all,
			func() { v.Set(v.Slice(0, n-1)) },
			func() { v.Set(v.Slice(1, n)) },
			func() { v.Set(v.Slice(0, 0)) },
			func() { v.SetZero() },
			func() { v.Set(reflect.Append(v, v.Index(n-1))) },
			func() { v.Set(reflect.AppendSlice(v, v)) },
			func() { reflect.Swapper(v.Interface())(0, n-1) },
		)
	}
	return all
}

// expectSame fails unless Same, both ways, and the model of it, say whether two configurations are equal.
func expectSame(t *testing.T, about string, a, b api.Config, want bool) {
	t.Helper()
	before := fmt.Sprintf("%#v %#v", a, b)
	if print.Same(a, b) != want || print.Same(b, a) != want {
		t.Errorf("%s: Same = %t and %t, want %t", about, print.Same(a, b), print.Same(b, a), want)
	}
	if modelSame(a, b) != want || modelSame(b, a) != want {
		t.Errorf("%s: the model does not say %t", about, want)
	}
	if !print.Same(a, a) || !print.Same(b, b) {
		t.Errorf("%s: a configuration is not equal to itself", about)
	}
	if fmt.Sprintf("%#v %#v", a, b) != before {
		t.Errorf("%s: Same has changed its arguments", about)
	}
}

// Configurations that differ in one part alone, whichever it is.
func TestEachPart(t *testing.T) {
	seen := 0
	base := full()
	for i, x := range partsOf(&base) {
		for k := range changes(x.v) {
			c := clone(base)
			part := partsOf(&c)[i]
			before := clone(c)
			changes(part.v)[k]()
			// A list of one element, or of equal ones at both ends, has no other order, and an empty one is not shorter.
			if modelSame(c, before) {
				continue
			}
			seen++
			expectSame(t, fmt.Sprintf("change %d of %s", k, part.path), c, base, false)
		}
	}
	if seen < 700 {
		t.Errorf("only %d changes", seen)
	}
}

// fieldsOf returns the paths of parts without their indices.
func fieldsOf(l []part) map[string]bool {
	all := map[string]bool{}
	for _, x := range l {
		path := ""
		within := false
		for _, r := range x.path {
			within = within && r != ']' || r == '['
			if !within && r != ']' {
				path += string(r)
			}
		}
		all[path] = true
	}
	return all
}

// The configuration that TestEachPart changes has every field of package api.
func TestFieldsOfFull(t *testing.T) {
	c := full()
	all := fieldsOf(partsOf(&c))
	for _, path := range []string{
		".Zones", ".Zones.Name", ".Zones.Offset", ".Zones.Rules", ".Zones.Rules.From", ".Zones.Rules.To", ".Zones.Rules.Month", ".Zones.Rules.Week", ".Zones.Rules.Weekday", ".Zones.Rules.Second", ".Zones.Rules.Offset",
		".People", ".People.Name", ".People.Zone", ".People.Quiet", ".People.Quiet.From", ".People.Quiet.To", ".People.MaxWeek", ".People.MinRest", ".People.Consent",
		".Calendars", ".Calendars.Name", ".Calendars.Zone", ".Calendars.Days",
		".Schedules", ".Schedules.Name", ".Schedules.Layers", ".Schedules.Edits", ".Schedules.Edits.Kind", ".Schedules.Edits.A", ".Schedules.Edits.B", ".Schedules.Edits.From", ".Schedules.Edits.To",
		".Schedules.Layers.Name", ".Schedules.Layers.Zone", ".Schedules.Layers.Start.Day", ".Schedules.Layers.Start.Second", ".Schedules.Layers.Unit", ".Schedules.Layers.Every", ".Schedules.Layers.Members", ".Schedules.Layers.Windows", ".Schedules.Layers.Windows.From", ".Schedules.Layers.Windows.To", ".Schedules.Layers.Calendar", ".Schedules.Layers.Mode",
	} {
		if !all[path] {
			t.Errorf("no %s", path)
		}
		delete(all, path)
	}
	if len(all) > 0 {
		t.Errorf("more fields: %v", all)
	}
}

// Each list that is empty is equal to a missing one, and not to one with an element.
func TestEmptyAndMissing(t *testing.T) {
	base := full()
	for i, x := range partsOf(&base) {
		if x.v.Kind() != reflect.Slice {
			continue
		}
		missing, empty, one := clone(base), clone(base), clone(base)
		partsOf(&missing)[i].v.SetZero()
		list := partsOf(&empty)[i].v
		list.Set(reflect.MakeSlice(list.Type(), 0, 5))
		list = partsOf(&one)[i].v
		list.Set(reflect.MakeSlice(list.Type(), 1, 1))
		expectSame(t, "missing and empty "+x.path, missing, empty, true)
		expectSame(t, "missing "+x.path+" and a zero", missing, one, false)
		expectSame(t, "empty "+x.path+" and a zero", empty, one, false)
	}
	expectSame(t, "nothing", api.Config{}, api.Config{Zones: []api.Zone{}, People: []api.Person{}, Calendars: []api.Calendar{}, Schedules: []api.Schedule{}}, true)
	expectSame(t, "nothing and full", api.Config{}, full(), false)
}

func TestSame(t *testing.T) {
	expectSame(t, "copies", full(), full(), true)
	expectSame(t, "a clone", full(), clone(full()), true)
	// Lists that share memory.
	c := full()
	c.Zones = c.Zones[:2]
	expectSame(t, "the first two zones", full(), c, false)
	c.Zones = c.Zones[:3]
	expectSame(t, "all three zones", full(), c, true)
	// Elements that are spread otherwise.
	a, b := full(), full()
	a.Schedules[0].Layers[0].Members, a.Schedules[0].Layers[1].Members = []int{0}, []int{1, 2}
	b.Schedules[0].Layers[0].Members, b.Schedules[0].Layers[1].Members = []int{0, 1}, []int{2}
	expectSame(t, "members", a, b, false)
	a, b = full(), full()
	a.Calendars[0].Days, a.Calendars[1].Days = []int{1, 2}, nil
	b.Calendars[0].Days, b.Calendars[1].Days = nil, []int{1, 2}
	expectSame(t, "days", a, b, false)
	a, b = full(), full()
	a.People[0].Quiet, a.People[1].Quiet = b.People[1].Quiet, b.People[0].Quiet
	expectSame(t, "quiet hours", a, b, false)
	a, b = full(), full()
	b.Schedules[1].Layers, b.Schedules[2].Layers = b.Schedules[2].Layers, nil
	expectSame(t, "layers", a, b, false)
	a, b = full(), full()
	b.Schedules[1].Edits, b.Schedules[2].Edits = b.Schedules[2].Edits, nil
	expectSame(t, "edits", a, b, false)
	// The same names and numbers in other fields.
	a, b = full(), full()
	b.Schedules[0].Edits[2].A, b.Schedules[0].Edits[2].B = 2, 1
	expectSame(t, "a swap", a, b, false)
	a, b = full(), full()
	b.People[1].MaxWeek, b.People[1].MinRest = b.People[1].MinRest, b.People[1].MaxWeek
	expectSame(t, "week and rest", a, b, false)
}

// Same looks at the parts alone: it does not matter what Check says.
func TestSameOfWrongConfigs(t *testing.T) {
	for _, x := range faults() {
		a, b := full(), full()
		x.change(&a)
		expectSame(t, x.about, a, b, false)
		x.change(&b)
		expectSame(t, x.about+" twice", a, b, true)
	}
	long := func(n int) api.Config {
		return api.Config{Zones: make([]api.Zone, n), People: make([]api.Person, n), Calendars: []api.Calendar{{Days: slices.Repeat([]int{-1}, n)}}}
	}
	expectSame(t, "long lists", long(1000), long(1000), true)
	expectSame(t, "longer lists", long(1000), long(1001), false)
	odd := api.Config{Zones: []api.Zone{{Name: "\xff\x00", Offset: math.MinInt}}, People: []api.Person{{Zone: math.MaxInt}}}
	expectSame(t, "odd values", odd, clone(odd), true)
	other := clone(odd)
	other.Zones[0].Name = "\xfe\x00"
	expectSame(t, "other bytes", odd, other, false)
}
