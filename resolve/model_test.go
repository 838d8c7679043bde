package resolve_test

import (
	"fmt"
	"reflect"
	"regexp"
	"slices"
	"strings"
	"testing"

	"pagewatch/api"
	"pagewatch/lexer"
	"pagewatch/resolve"
	"pagewatch/syntax"
	"pagewatch/week"
	"pagewatch/zone"
)

const (
	hour    = 3600
	day     = 86400
	wholeWk = 604800
	lastDay = 98980 // 2240-12-31
	end     = (lastDay + 1) * day
)

// longest is a name of as many bytes as a name may have.
var longest = strings.Repeat("long_name-01", 2)

// mixedNumbers returns a function whose results look random but are the same in every run.
func mixedNumbers(seed uint64) func(n int) int {
	return func(n int) int {
		seed = seed*6364136223846793005 + 1442695040888963407
		return int(seed>>33) % n
	}
}

// europe is a zone with rules.
func europe() api.Zone {
	return api.Zone{Name: "europe", Offset: hour, Rules: []api.YearRule{
		{From: 2020, To: 2030, Month: 3, Week: 5, Weekday: 6, Second: 2 * hour, Offset: 2 * hour},
		{From: 2020, To: 2030, Month: 10, Week: 5, Weekday: 6, Second: 3 * hour, Offset: hour},
	}}
}

// full returns a configuration without errors, with several elements in each list.
func full() api.Config {
	return api.Config{
		Zones: []api.Zone{{Name: "utc"}, europe(), {Name: "west", Offset: -5 * hour}},
		People: []api.Person{
			{Name: "ann", Zone: 1},
			{Name: "bob", Quiet: []api.Window{{From: 0, To: 21600}, {From: 79200, To: day}}, MaxWeek: 40 * hour, MinRest: 11 * hour, Consent: true},
			{Name: "cid", Zone: 2, Quiet: []api.Window{{From: 518400, To: wholeWk}}, MinRest: hour},
		},
		Calendars: []api.Calendar{{Name: "feasts", Zone: 1, Days: []int{20454, 20500, 20813}}, {Name: "none"}, {Name: "sales", Zone: 2, Days: []int{20600}}},
		Schedules: []api.Schedule{
			{Name: "web", Layers: []api.Layer{
				{Name: "base", Zone: 1, Start: api.Local{Day: 20458, Second: 32400}, Unit: api.UnitWeeks, Every: 1, Members: []int{0, 1, 2}},
				{Name: "night", Start: api.Local{Day: 1}, Every: 12, Members: []int{2, 0}, Windows: []api.Window{{From: 10, To: 20}, {From: 20, To: 86430}}, Mode: api.ModeNot},
				{Name: "sales", Zone: 2, Start: api.Local{Day: 20458, Second: 1}, Unit: api.UnitDays, Every: 3, Members: []int{1}, Calendar: 2, Mode: api.ModeOnly},
			}, Edits: []api.Edit{{Kind: api.EditLeave, A: 2, From: 5, To: 6}, {Kind: api.EditOverride, A: -1, To: 1}, {Kind: api.EditSwap, A: 1, B: 2, From: 1767225600, To: 1767312000}}},
			{Name: "empty"},
			{Name: "db", Layers: []api.Layer{{Name: "base", Start: api.Local{Day: 5, Second: 86399}, Unit: api.UnitWeeks, Every: 2, Members: []int{1, 1, 0}, Calendar: 1, Mode: api.ModeNot}}, Edits: []api.Edit{{Kind: api.EditOverride, A: 1, From: 9, To: 999}}},
		},
	}
}

// text is full as a text.
const text = `zone utc +00:00
zone europe +01:00
rule 2020 2030 mar last sun 02:00 +02:00
rule 2020 2030 oct last sun 03:00 +01:00
zone west -05:00
person ann europe
person bob utc week 40 rest 11 consent
quiet mon 00:00 mon 06:00
quiet mon 22:00 mon 24:00
person cid west rest 1
quiet sun 00:00 sun 24:00
calendar feasts europe
days 2026-01-01 2026-02-16
days 2026-12-26
calendar none utc
calendar sales west
days 2026-05-27
schedule web
layer base europe 2026-01-05 09:00 1 weeks
member ann bob cid
layer night utc 1970-01-02 00:00 12 hours
member cid
member ann
on mon 00:00:10 mon 00:00:20
on mon 00:00:20 tue 00:00:30
not feasts
layer sales west 2026-01-05 00:00:01 3 days
member bob
only sales
leave cid 1970-01-01T00:00:05Z 1970-01-01T00:00:06Z
override nobody 1970-01-01T00:00:00Z 1970-01-01T00:00:01Z
swap bob cid 2026-01-01T00:00:00Z 2026-01-02T00:00:00Z
schedule empty
schedule db
layer base utc 1970-01-06 23:59:59 2 weeks
member bob bob ann
not none
override bob 1970-01-01T00:00:09Z 1970-01-01T00:16:39Z
`

// same reports whether two configurations are equal in all their parts. Empty lists are printed as missing ones are.
func same(a, b api.Config) bool {
	return reflect.DeepEqual(a, b) || fmt.Sprintf("%+v", a) == fmt.Sprintf("%+v", b)
}

// isZero reports whether a configuration has nothing.
func isZero(c api.Config) bool {
	return len(c.Zones)+len(c.People)+len(c.Calendars)+len(c.Schedules) == 0
}

// expectCheck fails unless Check, and the model of it, return an error for a configuration, which both leave as it was.
func expectCheck(t *testing.T, about string, c api.Config, want api.Errno) {
	t.Helper()
	before := fmt.Sprintf("%+v", c)
	if e := resolve.Check(c); e != want {
		t.Errorf("%s: Check = %d, want %d", about, e, want)
	}
	if e := modelCheck(c); e != want {
		t.Errorf("%s: the model says %d, not %d", about, e, want)
	}
	if fmt.Sprintf("%+v", c) != before {
		t.Errorf("%s: Check has changed its argument", about)
	}
}

var nameForm = regexp.MustCompile(`^[a-z][a-z0-9_-]{0,23}$`)

// findings collects errors in the order of the chapter.
type findings []api.Errno

func (f *findings) add(e api.Errno, is bool) {
	if is {
		*f = append(*f, e)
	}
}

// name adds the errors of a name in a list of names.
func (f *findings) name(s string, i int, all []string) {
	f.add(api.ErrText, !nameForm.MatchString(s))
	f.add(api.ErrTwice, slices.Contains(all[:i], s))
}

// within reports whether n is from low to high.
func within(n, low, high int) bool { return low <= n && n <= high }

// modelCheck lists the errors of a configuration in the order of the chapter, each of them independently of all others, and returns the first one.
func modelCheck(c api.Config) api.Errno {
	var f findings
	f.add(api.ErrLimit, len(c.Zones) > 16 || len(c.People) > 32 || len(c.Calendars) > 8 || len(c.Schedules) > 12)
	var zones, people, calendars, schedules []string
	for i, z := range c.Zones {
		zones = append(zones, z.Name)
		f.name(z.Name, i, zones)
		f.add(api.ErrInvalid, zone.Check(z) != api.OK || z.Offset%60 != 0)
		for _, r := range z.Rules {
			f.add(api.ErrInvalid, r.Offset%60 != 0)
		}
	}
	for i, p := range c.People {
		people = append(people, p.Name)
		f.add(api.ErrText, p.Name == "nobody")
		f.name(p.Name, i, people)
		f.add(api.ErrName, !within(p.Zone, 0, len(zones)-1))
		f.add(api.ErrInvalid, week.Check(p.Quiet) != api.OK)
		f.add(api.ErrRange, !within(p.MaxWeek, 0, wholeWk) || p.MaxWeek%hour != 0)
		f.add(api.ErrRange, !within(p.MinRest, 0, wholeWk) || p.MinRest%hour != 0)
	}
	for i, x := range c.Calendars {
		calendars = append(calendars, x.Name)
		f.name(x.Name, i, calendars)
		f.add(api.ErrName, !within(x.Zone, 0, len(zones)-1))
		f.add(api.ErrLimit, len(x.Days) > 64)
		for _, n := range x.Days {
			f.add(api.ErrRange, !within(n, 0, lastDay))
		}
		for k := range x.Days {
			f.add(api.ErrOrder, k > 0 && x.Days[k] <= x.Days[k-1])
		}
	}
	for i, s := range c.Schedules {
		schedules = append(schedules, s.Name)
		f.name(s.Name, i, schedules)
		f.add(api.ErrLimit, len(s.Layers) > 6 || len(s.Edits) > 48)
		var layers []string
		for k, l := range s.Layers {
			layers = append(layers, l.Name)
			f.name(l.Name, k, layers)
			f.layer(c, l)
		}
		for _, x := range s.Edits {
			f.edit(c, x)
		}
	}
	if len(f) == 0 {
		return api.OK
	}
	return f[0]
}

// layer adds the errors of a layer other than those of its name.
func (f *findings) layer(c api.Config, l api.Layer) {
	f.add(api.ErrName, !within(l.Zone, 0, len(c.Zones)-1))
	f.add(api.ErrRange, !within(l.Start.Day, 1, lastDay) || !within(l.Start.Second, 0, day-1))
	f.add(api.ErrRange, !within(l.Unit, 0, 2) || !within(l.Every, 1, 400))
	f.add(api.ErrEmpty, len(l.Members) == 0)
	f.add(api.ErrLimit, len(l.Members) > 12)
	for _, n := range l.Members {
		f.add(api.ErrName, !within(n, 0, len(c.People)-1))
	}
	f.add(api.ErrInvalid, week.Check(l.Windows) != api.OK)
	f.add(api.ErrRange, !within(l.Mode, 0, 2))
	f.add(api.ErrName, l.Mode != 0 && !within(l.Calendar, 0, len(c.Calendars)-1))
	f.add(api.ErrRange, l.Mode == 0 && l.Calendar != 0)
}

// edit adds the errors of an edit.
func (f *findings) edit(c api.Config, x api.Edit) {
	least := 0
	if x.Kind == 1 {
		least = -1
	}
	f.add(api.ErrRange, !within(x.Kind, 0, 2))
	f.add(api.ErrName, !within(x.A, least, len(c.People)-1) || x.Kind == 2 && !within(x.B, 0, len(c.People)-1))
	f.add(api.ErrRange, x.Kind != 2 && x.B != 0)
	f.add(api.ErrTwice, x.Kind == 2 && x.A == x.B)
	f.add(api.ErrRange, x.From < 0 || x.To < 0 || x.To >= end)
	f.add(api.ErrOrder, x.From >= x.To)
}

// statements returns the statements of lines, with the numbers 1, 2, 3, ..; also if they are none by syntax.Form.
func statements(t *testing.T, lines ...string) []api.Statement {
	t.Helper()
	var l []api.Statement
	for i, s := range lines {
		tokens, e := lexer.Line(s)
		if e != api.OK {
			t.Fatalf("%q: %d", s, e)
		}
		l = append(l, api.Statement{Line: i + 1, Tokens: tokens})
	}
	return l
}

// expectBuild fails unless Build returns an error and a line for statements, and nothing else with it; it is OK only for what Check accepts.
func expectBuild(t *testing.T, about any, l []api.Statement, line int, want api.Errno) {
	t.Helper()
	before := fmt.Sprintf("%+v", l)
	c, n, e := resolve.Build(l)
	if n != line || e != want {
		t.Errorf("%v: Build = line %d, %d, want line %d, %d", about, n, e, line, want)
	}
	if e != api.OK && !isZero(c) {
		t.Errorf("%v: Build = %+v with the error %d", about, c, e)
	}
	if e == api.OK && resolve.Check(c) != api.OK {
		t.Errorf("%v: Build = %+v, which has an error", about, c)
	}
	if fmt.Sprintf("%+v", l) != before {
		t.Errorf("%v: Build has changed its argument", about)
	}
}

// expectLoad fails unless Load, and Build of what syntax.Parse returns, return an error and a line for a text.
func expectLoad(t *testing.T, text string, line int, want api.Errno) {
	t.Helper()
	c, n, e := resolve.Load(text)
	if n != line || e != want || e != api.OK && !isZero(c) {
		t.Errorf("%.2000q: Load = %+v, line %d, %d, want line %d, %d", text, c, n, e, line, want)
	}
	if l, _, e := syntax.Parse(text); e == api.OK {
		expectBuild(t, text, l, line, want)
	}
}

// needs says what a statement belongs to, which of its words have to be of a kind, and which ones are names of others.
type needs struct {
	owner string
	words map[int]string
	names map[int]string
}

// modelNeeds is the chapter's P8.2 as a table.
func modelNeeds() map[string]needs {
	window := map[int]string{1: "weekday", 3: "weekday"}
	return map[string]needs{
		"zone": {}, "schedule": {}, "rule": {"zone", map[int]string{3: "month", 4: "ordinal", 5: "weekday"}, nil},
		"person": {"", nil, map[int]string{2: "zone"}}, "quiet": {"person", window, nil},
		"calendar": {"", nil, map[int]string{2: "zone"}}, "days": {"calendar", nil, nil},
		"layer": {"schedule", map[int]string{6: "unit"}, map[int]string{2: "zone"}}, "member": {"layer", nil, nil}, "on": {"layer", window, nil},
		"not": {"mode", nil, map[int]string{1: "calendar"}}, "only": {"mode", nil, map[int]string{1: "calendar"}},
		"leave": {"schedule", nil, map[int]string{1: "person"}}, "override": {"schedule", nil, map[int]string{1: "person"}}, "swap": {"schedule", nil, map[int]string{1: "person", 2: "person"}},
	}
}

// modelBuild returns the line and the error of the first wrong statement.
func modelBuild(l []api.Statement) (int, api.Errno) {
	table := modelNeeds()
	words := map[string]string{"month": "jan feb mar apr may jun jul aug sep oct nov dec", "weekday": "mon tue wed thu fri sat sun", "ordinal": "first second third fourth last", "unit": "hours days weeks"}
	there := map[string]bool{}
	for _, s := range l {
		if !syntax.Form(s.Tokens) {
			return s.Line, api.ErrText
		}
		keyword := s.Tokens[0].Text
		need := table[keyword]
		for i, kind := range need.words {
			if !slices.Contains(strings.Fields(words[kind]), s.Tokens[i].Text) {
				return s.Line, api.ErrText
			}
		}
		if need.owner != "" && !there[need.owner] {
			return s.Line, api.ErrState
		}
		names := need.names
		if keyword == "member" {
			names = map[int]string{}
			for i := range s.Tokens[1:] {
				names[i+1] = "person"
			}
		}
		for i, kind := range names {
			name := s.Tokens[i].Text
			if !there[kind+" "+name] && !(keyword == "override" && name == "nobody") {
				return s.Line, api.ErrName
			}
		}
		switch keyword {
		case "schedule":
			there["layer"], there["mode"] = false, false
		case "layer":
			there["mode"] = true
		case "not", "only":
			there["mode"] = false
		}
		there[keyword], there[keyword+" "+s.Tokens[1].Text] = true, true
	}
	return 0, api.OK
}
