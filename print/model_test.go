package print_test

import (
	"fmt"
	"reflect"
	"slices"
	"strings"
	"testing"
	"time"

	"pagewatch/api"
	"pagewatch/lexer"
	"pagewatch/print"
	"pagewatch/resolve"
)

const (
	hour    = 3600
	day     = 86400
	wholeWk = 604800
	lastDay = 98980 // 2240-12-31
	end     = (lastDay + 1) * day
)

// longest is a name of as many bytes as a name may have.
var longest = strings.Repeat("long_name-01", 2)

var (
	months   = strings.Fields("jan feb mar apr may jun jul aug sep oct nov dec")
	ordinals = strings.Fields("first second third fourth last")
	weekdays = strings.Fields("mon tue wed thu fri sat sun")
	units    = strings.Fields("hours days weeks")
	modes    = strings.Fields("none not only")
	kinds    = strings.Fields("leave override swap")
)

// mixedNumbers returns a function whose results look random but are the same in every run.
func mixedNumbers(seed uint64) func(n int) int {
	return func(n int) int {
		seed = seed*6364136223846793005 + 1442695040888963407
		return int(seed>>33) % n
	}
}

// full returns a configuration without errors, with several elements in each list.
func full() api.Config {
	return api.Config{
		Zones: []api.Zone{{Name: "utc"}, {Name: "europe", Offset: hour, Rules: []api.YearRule{
			{From: 2020, To: 2030, Month: 3, Week: 5, Weekday: 6, Second: 2 * hour, Offset: 2 * hour},
			{From: 2020, To: 2030, Month: 10, Week: 5, Weekday: 6, Second: 3 * hour, Offset: hour},
		}}, {Name: "west", Offset: -5 * hour}},
		People: []api.Person{
			{Name: "ann", Zone: 1},
			{Name: "bob", Quiet: []api.Window{{From: 0, To: 21600}, {From: 79200, To: day}}, MaxWeek: 40 * hour, MinRest: 11 * hour, Consent: true},
			{Name: "cid", Zone: 2, Quiet: []api.Window{{From: 518400, To: wholeWk}}, MinRest: hour},
		},
		Calendars: []api.Calendar{{Name: "feasts", Zone: 1, Days: []int{20454, 20500, 20813}}, {Name: "none"}, {Name: "sales", Zone: 2, Days: []int{20600}}},
		Schedules: []api.Schedule{
			{Name: "web", Layers: []api.Layer{
				{Name: "base", Zone: 1, Start: api.Local{Day: 20458, Second: 32400}, Unit: api.UnitWeeks, Every: 1, Members: []int{0, 1, 2}},
				{Name: "night", Start: api.Local{Day: 1}, Every: 12, Members: []int{2, 0}, Windows: []api.Window{{From: 10, To: 20}, {From: 20, To: 86430}}, Mode: api.ModeNot},
				{Name: "sales", Zone: 2, Start: api.Local{Day: 20458, Second: 1}, Unit: api.UnitDays, Every: 3, Members: []int{1}, Calendar: 2, Mode: api.ModeOnly},
			}, Edits: []api.Edit{{Kind: api.EditLeave, A: 2, From: 5, To: 6}, {Kind: api.EditOverride, A: -1, To: 1}, {Kind: api.EditSwap, A: 1, B: 2, From: 1767225600, To: 1767312000}}},
			{Name: "empty"},
			{Name: "db", Layers: []api.Layer{{Name: "base", Start: api.Local{Day: 5, Second: 86399}, Unit: api.UnitWeeks, Every: 2, Members: []int{1, 1, 0}, Calendar: 1, Mode: api.ModeNot}}, Edits: []api.Edit{{Kind: api.EditOverride, A: 1, From: 9, To: 999}}},
		},
	}
}

// fullText is the text of full.
const fullText = `zone utc +00:00
zone europe +01:00
rule 2020 2030 mar last sun 02:00 +02:00
rule 2020 2030 oct last sun 03:00 +01:00
zone west -05:00
person ann europe
person bob utc week 40 rest 11 consent
quiet mon 00:00 mon 06:00
quiet mon 22:00 mon 24:00
person cid west rest 1
quiet sun 00:00 sun 24:00
calendar feasts europe
days 2026-01-01 2026-02-16 2026-12-26
calendar none utc
calendar sales west
days 2026-05-27
schedule web
layer base europe 2026-01-05 09:00 1 weeks
member ann bob cid
layer night utc 1970-01-02 00:00 12 hours
member cid ann
on mon 00:00:10 mon 00:00:20
on mon 00:00:20 tue 00:00:30
not feasts
layer sales west 2026-01-05 00:00:01 3 days
member bob
only sales
leave cid 1970-01-01T00:00:05Z 1970-01-01T00:00:06Z
override nobody 1970-01-01T00:00:00Z 1970-01-01T00:00:01Z
swap bob cid 2026-01-01T00:00:00Z 2026-01-02T00:00:00Z
schedule empty
schedule db
layer base utc 1970-01-06 23:59:59 2 weeks
member bob bob ann
not none
override bob 1970-01-01T00:00:09Z 1970-01-01T00:16:39Z
`

// clone returns a copy of a configuration, without any shared memory.
func clone(c api.Config) api.Config {
	return deepCopy(reflect.ValueOf(c)).Interface().(api.Config)
}

// deepCopy returns a copy of a value. Missing lists stay missing.
func deepCopy(v reflect.Value) reflect.Value {
	out := reflect.New(v.Type()).Elem()
	switch v.Kind() {
	case reflect.Struct:
		for i := range v.NumField() {
			out.Field(i).Set(deepCopy(v.Field(i)))
		}
	case reflect.Slice:
		if v.IsNil() {
			return out
		}
		out.Set(reflect.MakeSlice(v.Type(), v.Len(), v.Len()))
		for i := range v.Len() {
			out.Index(i).Set(deepCopy(v.Index(i)))
		}
	default:
		out.Set(v)
	}
	return out
}

// equal is P9.3 for values of any type: all parts are equal, and empty lists are equal to missing ones.
func equal(a, b reflect.Value) bool {
	switch a.Kind() {
	case reflect.Struct:
		for i := range a.NumField() {
			if !equal(a.Field(i), b.Field(i)) {
				return false
			}
		}
		return true
	case reflect.Slice:
		if a.Len() != b.Len() {
			return false
		}
		for i := range a.Len() {
			if !equal(a.Index(i), b.Index(i)) {
				return false
			}
		}
		return true
	default:
		return a.Interface() == b.Interface()
	}
}

func modelSame(a, b api.Config) bool {
	return equal(reflect.ValueOf(a), reflect.ValueOf(b))
}

func clockText(n int) string {
	if n%60 == 0 {
		return fmt.Sprintf("%02d:%02d", n/hour, n/60%60)
	}
	return fmt.Sprintf("%02d:%02d:%02d", n/hour, n/60%60, n%60)
}

func offsetText(n int) string {
	if n < 0 {
		return "-" + clockText(-n)
	}
	return "+" + clockText(n)
}

func dateText(n int) string {
	return time.Unix(int64(n)*day, 0).UTC().Format("2006-01-02")
}

func instantText(n int) string {
	return time.Unix(int64(n), 0).UTC().Format("2006-01-02T15:04:05Z")
}

// windowText looks for the weekday that begins last before From, and for the one that ends first after To.
func windowText(w api.Window) string {
	first, last := 6, 0
	for w.From < first*day {
		first--
	}
	for w.To > last*day+day {
		last++
	}
	return weekdays[first] + " " + clockText(w.From-first*day) + " " + weekdays[last] + " " + clockText(w.To-last*day)
}

// modelLines returns the lines of the text of a configuration without errors.
func modelLines(c api.Config) []string {
	var l []string
	add := func(format string, parts ...any) { l = append(l, fmt.Sprintf(format, parts...)) }
	for _, z := range c.Zones {
		add("zone %s %s", z.Name, offsetText(z.Offset))
		for _, r := range z.Rules {
			add("rule %d %d %s %s %s %s %s", r.From, r.To, months[r.Month-1], ordinals[r.Week-1], weekdays[r.Weekday], clockText(r.Second), offsetText(r.Offset))
		}
	}
	for _, p := range c.People {
		add("person %s %s%s", p.Name, c.Zones[p.Zone].Name, optionsText(p))
		for _, w := range p.Quiet {
			add("quiet %s", windowText(w))
		}
	}
	for _, x := range c.Calendars {
		add("calendar %s %s", x.Name, c.Zones[x.Zone].Name)
		for i, n := range x.Days {
			if i%32 == 0 {
				add("days")
			}
			l[len(l)-1] += " " + dateText(n)
		}
	}
	for _, s := range c.Schedules {
		add("schedule %s", s.Name)
		for _, x := range s.Layers {
			l = append(l, modelLayer(c, x)...)
		}
		for _, x := range s.Edits {
			add("%s %s %s %s", kinds[x.Kind], peopleText(c, x), instantText(x.From), instantText(x.To))
		}
	}
	return l
}

func optionsText(p api.Person) string {
	text := ""
	if p.MaxWeek != 0 {
		text += fmt.Sprintf(" week %d", p.MaxWeek/hour)
	}
	if p.MinRest != 0 {
		text += fmt.Sprintf(" rest %d", p.MinRest/hour)
	}
	if p.Consent {
		text += " consent"
	}
	return text
}

func peopleText(c api.Config, x api.Edit) string {
	switch {
	case x.A == -1:
		return "nobody"
	case x.Kind == api.EditSwap:
		return c.People[x.A].Name + " " + c.People[x.B].Name
	default:
		return c.People[x.A].Name
	}
}

func modelLayer(c api.Config, x api.Layer) []string {
	members := "member"
	for _, n := range x.Members {
		members += " " + c.People[n].Name
	}
	l := []string{fmt.Sprintf("layer %s %s %s %s %d %s", x.Name, c.Zones[x.Zone].Name, dateText(x.Start.Day), clockText(x.Start.Second), x.Every, units[x.Unit]), members}
	for _, w := range x.Windows {
		l = append(l, "on "+windowText(w))
	}
	if x.Mode != api.ModeNone {
		l = append(l, modes[x.Mode]+" "+c.Calendars[x.Calendar].Name)
	}
	return l
}

// statements returns the statements of lines, with the numbers 1, 2, 3, ..
func statements(t *testing.T, lines []string) []api.Statement {
	t.Helper()
	var l []api.Statement
	for i, s := range lines {
		tokens, e := lexer.Line(s)
		if e != api.OK {
			t.Fatalf("%q: %d", s, e)
		}
		l = append(l, api.Statement{Line: i + 1, Tokens: tokens})
	}
	return l
}

// sameStatements reports whether statements are equal in all their parts.
func sameStatements(a, b []api.Statement) bool {
	return slices.EqualFunc(a, b, func(a, b api.Statement) bool {
		return a.Line == b.Line && slices.Equal(a.Tokens, b.Tokens)
	})
}

// expectLines fails unless a configuration is told by lines, and leads to itself again. Lines that are too long for a text are no text.
func expectLines(t *testing.T, about string, c api.Config, lines []string) {
	t.Helper()
	before := fmt.Sprintf("%#v", c)
	l, e := print.Statements(c)
	if want := statements(t, lines); e != api.OK || !sameStatements(l, want) {
		t.Errorf("%s: Statements = %v, %d, want %v", about, l, e, want)
	}
	if got, line, e := resolve.Build(l); e != api.OK || line != 0 || !modelSame(got, c) || !print.Same(got, c) {
		t.Errorf("%s: Build = %+v, line %d, %d, want %+v", about, got, line, e, c)
	}
	want, wantError := "", api.OK
	for _, s := range lines {
		want += s + "\n"
	}
	if len(want) > 65536 {
		want, wantError = "", api.ErrLimit
	}
	text, e := print.Text(c)
	if text != want || e != wantError {
		t.Errorf("%s: Text = %s, %d, want %s, %d", about, text, e, want, wantError)
	}
	if got, line, e := resolve.Load(text); wantError == api.OK && (e != api.OK || line != 0 || !modelSame(got, c)) {
		t.Errorf("%s: Load = %+v, line %d, %d, want %+v", about, got, line, e, c)
	}
	if fmt.Sprintf("%#v", c) != before {
		t.Errorf("%s: the argument has changed", about)
	}
}

// expectError fails unless Statements and Text return an error for a configuration, and nothing else with it.
func expectError(t *testing.T, about string, c api.Config, want api.Errno) {
	t.Helper()
	before := fmt.Sprintf("%#v", c)
	if l, e := print.Statements(c); len(l) != 0 || e != want {
		t.Errorf("%s: Statements = %v, %d, want %d", about, l, e, want)
	}
	if text, e := print.Text(c); text != "" || e != want {
		t.Errorf("%s: Text = %q, %d, want %d", about, text, e, want)
	}
	if fmt.Sprintf("%#v", c) != before {
		t.Errorf("%s: the argument has changed", about)
	}
}
