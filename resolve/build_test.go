package resolve_test

import (
	"fmt"
	"math"
	"slices"
	"strings"
	"testing"

	"pagewatch/api"
	"pagewatch/resolve"
	"pagewatch/syntax"
)

// P8.2 and P8.3

// one is a configuration with one of each, two people, and a line that most other statements need.
const one = `zone z +00:00
person a z
person b z
calendar c z
schedule s
layer l z 1970-01-05 00:00 1 weeks
member a
`

// when is the times of an edit.
const when = " 1970-01-01T00:00:05Z 1970-01-01T00:00:06Z"

// ofOne returns the configuration of one, with changes.
func ofOne(changes ...func(c *api.Config)) api.Config {
	c := api.Config{
		Zones:     []api.Zone{{Name: "z"}},
		People:    []api.Person{{Name: "a"}, {Name: "b"}},
		Calendars: []api.Calendar{{Name: "c"}},
		Schedules: []api.Schedule{{Name: "s", Layers: []api.Layer{{Name: "l", Start: api.Local{Day: 4}, Unit: api.UnitWeeks, Every: 1, Members: []int{0}}}}},
	}
	for _, change := range changes {
		change(&c)
	}
	return c
}

// layerOf returns the layer of the configuration of one.
func layerOf(c *api.Config) *api.Layer { return &c.Schedules[0].Layers[0] }

// expectConfig fails unless a text, and its statements, lead to a configuration.
func expectConfig(t *testing.T, text string, want api.Config) {
	t.Helper()
	c, line, e := resolve.Load(text)
	if !same(c, want) || line != 0 || e != api.OK {
		t.Errorf("%s: Load = %+v, line %d, %d, want %+v", text, c, line, e, want)
	}
	l, _, _ := syntax.Parse(text)
	for i := range l {
		l[i].Line = -7
	}
	if c, line, e := resolve.Build(l); !same(c, want) || line != 0 || e != api.OK {
		t.Errorf("%s: Build = %+v, line %d, %d, want %+v", text, c, line, e, want)
	}
}

func TestKnownTexts(t *testing.T) {
	expectConfig(t, text, full())
	expectConfig(t, "", api.Config{})
	expectConfig(t, "\n# nothing\n\n", api.Config{})
	expectConfig(t, one, ofOne())
	expectConfig(t, "zone z +00:00\nperson a z\nschedule s\nlayer l z 2026-01-05 09:00 1 weeks\nmember a", api.Config{
		Zones:     []api.Zone{{Name: "z"}},
		People:    []api.Person{{Name: "a"}},
		Schedules: []api.Schedule{{Name: "s", Layers: []api.Layer{{Name: "l", Start: api.Local{Day: 20458, Second: 32400}, Unit: api.UnitWeeks, Every: 1, Members: []int{0}}}}},
	})
	expectConfig(t, "schedule b\nschedule a\nschedule nobody\n", api.Config{Schedules: []api.Schedule{{Name: "b"}, {Name: "a"}, {Name: "nobody"}}})
	expectConfig(t, "zone y -18:00\nzone z +18:00\nzone nobody -00:30\nperson a nobody\ncalendar a z\n", api.Config{
		Zones:  []api.Zone{{Name: "y", Offset: -64800}, {Name: "z", Offset: 64800}, {Name: "nobody", Offset: -1800}},
		People: []api.Person{{Name: "a", Zone: 2}}, Calendars: []api.Calendar{{Name: "a", Zone: 1}},
	})
}

// Each statement alone, behind those of one.
func TestEachStatement(t *testing.T) {
	edit := func(kind, a, b, from, to int) func(c *api.Config) {
		return func(c *api.Config) {
			s := &c.Schedules[0]
			s.Edits = append(s.Edits, api.Edit{Kind: kind, A: a, B: b, From: from, To: to})
		}
	}
	window := func(from, to int) func(c *api.Config) {
		return func(c *api.Config) { layerOf(c).Windows = append(layerOf(c).Windows, api.Window{From: from, To: to}) }
	}
	quiet := func(from, to int) func(c *api.Config) {
		return func(c *api.Config) { c.People[1].Quiet = append(c.People[1].Quiet, api.Window{From: from, To: to}) }
	}
	for _, x := range []struct {
		lines   string
		changes []func(c *api.Config)
	}{
		{"zone y -05:30", []func(c *api.Config){func(c *api.Config) { c.Zones = append(c.Zones, api.Zone{Name: "y", Offset: -19800}) }}},
		{"rule 1970 2240 dec fourth wed 23:59:58 -02:00", []func(c *api.Config){func(c *api.Config) {
			c.Zones[0].Rules = []api.YearRule{{From: 1970, To: 2240, Month: 12, Week: 4, Weekday: 2, Second: 86398, Offset: -7200}}
		}}},
		{"person d z", []func(c *api.Config){func(c *api.Config) { c.People = append(c.People, api.Person{Name: "d"}) }}},
		{"quiet tue 01:02:03 sat 24:00", []func(c *api.Config){quiet(90123, 518400)}},
		{"quiet mon 00:00 sun 24:00", []func(c *api.Config){quiet(0, wholeWk)}},
		{"quiet mon 24:00 wed 00:00", []func(c *api.Config){quiet(day, 2*day)}},
		{"quiet mon 01:00 mon 02:00\nquiet mon 02:00 mon 03:00", []func(c *api.Config){quiet(3600, 7200), quiet(7200, 10800)}},
		{"calendar d z", []func(c *api.Config){func(c *api.Config) { c.Calendars = append(c.Calendars, api.Calendar{Name: "d"}) }}},
		{"days 1970-01-01 1970-01-05 2240-12-31", []func(c *api.Config){func(c *api.Config) { c.Calendars[0].Days = []int{0, 4, lastDay} }}},
		{"days 1970-01-01\ndays 1970-01-02 1970-01-03\ndays 1970-01-04", []func(c *api.Config){func(c *api.Config) { c.Calendars[0].Days = []int{0, 1, 2, 3} }}},
		{"schedule d", []func(c *api.Config){func(c *api.Config) { c.Schedules = append(c.Schedules, api.Schedule{Name: "d"}) }}},
		{"layer k z 2240-12-31 23:59:59 400 hours\nmember b", []func(c *api.Config){func(c *api.Config) {
			c.Schedules[0].Layers = append(c.Schedules[0].Layers, api.Layer{Name: "k", Start: api.Local{Day: lastDay, Second: 86399}, Unit: api.UnitHours, Every: 400, Members: []int{1}})
		}}},
		{"layer k z 1970-01-02 00:00 2 days\nmember b b\nmember a", []func(c *api.Config){func(c *api.Config) {
			c.Schedules[0].Layers = append(c.Schedules[0].Layers, api.Layer{Name: "k", Start: api.Local{Day: 1}, Unit: api.UnitDays, Every: 2, Members: []int{1, 1, 0}})
		}}},
		{"member b a", []func(c *api.Config){func(c *api.Config) { layerOf(c).Members = []int{0, 1, 0} }}},
		{"on sun 00:00 sun 24:00", []func(c *api.Config){window(518400, wholeWk)}},
		{"on mon 09:00 tue 17:00\non thu 00:00 fri 00:00", []func(c *api.Config){window(32400, 147600), window(3*day, 4*day)}},
		{"not c", []func(c *api.Config){func(c *api.Config) { layerOf(c).Mode = api.ModeNot }}},
		{"only c", []func(c *api.Config){func(c *api.Config) { layerOf(c).Mode = api.ModeOnly }}},
		{"calendar d z\nonly d", []func(c *api.Config){func(c *api.Config) {
			c.Calendars = append(c.Calendars, api.Calendar{Name: "d"})
			layerOf(c).Mode, layerOf(c).Calendar = api.ModeOnly, 1
		}}},
		{"calendar d z\nnot d", []func(c *api.Config){func(c *api.Config) {
			c.Calendars = append(c.Calendars, api.Calendar{Name: "d"})
			layerOf(c).Mode, layerOf(c).Calendar = api.ModeNot, 1
		}}},
		{"leave b" + when, []func(c *api.Config){edit(api.EditLeave, 1, 0, 5, 6)}},
		{"leave a 1970-01-01T00:00:00Z 2240-12-31T23:59:59Z", []func(c *api.Config){edit(api.EditLeave, 0, 0, 0, end-1)}},
		{"override b" + when, []func(c *api.Config){edit(api.EditOverride, 1, 0, 5, 6)}},
		{"override a" + when, []func(c *api.Config){edit(api.EditOverride, 0, 0, 5, 6)}},
		{"override nobody" + when, []func(c *api.Config){edit(api.EditOverride, -1, 0, 5, 6)}},
		{"swap a b" + when, []func(c *api.Config){edit(api.EditSwap, 0, 1, 5, 6)}},
		{"swap b a" + when, []func(c *api.Config){edit(api.EditSwap, 1, 0, 5, 6)}},
		{"swap b a" + when + "\nleave a" + when + "\nleave a" + when, []func(c *api.Config){edit(api.EditSwap, 1, 0, 5, 6), edit(api.EditLeave, 0, 0, 5, 6), edit(api.EditLeave, 0, 0, 5, 6)}},
	} {
		expectConfig(t, one+x.lines, ofOne(x.changes...))
	}
}

func TestOptionsOfPersons(t *testing.T) {
	for options, p := range map[string]api.Person{
		"": {}, " week 40": {MaxWeek: 144000}, " rest 11": {MinRest: 39600}, " consent": {Consent: true}, " week 40 rest 11": {MaxWeek: 144000, MinRest: 39600}, " week 40 consent": {MaxWeek: 144000, Consent: true}, " rest 11 consent": {MinRest: 39600, Consent: true}, " week 40 rest 11 consent": {MaxWeek: 144000, MinRest: 39600, Consent: true}, " week 0 rest 0": {}, " week 168 rest 168": {MaxWeek: wholeWk, MinRest: wholeWk}, " week 1 rest 2": {MaxWeek: hour, MinRest: 2 * hour}, " week 2 rest 1": {MaxWeek: 2 * hour, MinRest: hour},
	} {
		for _, name := range []string{"ann", "week", "rest", "consent", "person"} {
			for _, z := range []string{"z", "week", "rest", "consent", "nobody"} {
				p.Name = name
				expectConfig(t, "zone "+z+" +00:00\nperson "+name+" "+z+options, api.Config{Zones: []api.Zone{{Name: z}}, People: []api.Person{p}})
			}
		}
	}
	for _, options := range []string{" week 169", " rest 169", " week 169 consent", " week 40 rest 169", " week 999999999", " rest 999999999"} {
		expectLoad(t, "zone z +00:00\nperson ann z"+options, 0, api.ErrRange)
	}
	for _, options := range []string{" rest 11 week 40", " consent week 40", " week", " week 40 week 40", " week -1", " week 12:00", " x", " consent consent"} {
		expectLoad(t, "zone z +00:00\nperson ann z"+options, 2, api.ErrText)
	}
}

// Statements of the other kinds may stand between a thing and what belongs to it.
func TestLastOnes(t *testing.T) {
	expectConfig(t, `zone y +01:00
schedule r
zone z +02:00
person a y
calendar c z
schedule s
person b z
calendar d y
layer k y 1970-01-05 00:00 1 hours
member b
rule 2020 2020 mar last sun 02:00 +03:00
layer l z 1970-01-06 00:00 2 days
days 1970-01-07
quiet mon 00:00 mon 06:00
leave a 1970-01-01T00:00:05Z 1970-01-01T00:00:06Z
zone x +04:00
member a
on tue 00:00 tue 06:00
person e x
quiet wed 00:00 wed 06:00
not d
schedule t
calendar f x
days 1970-01-08
rule 2021 2021 mar first mon 02:00 +03:00
override e 1970-01-01T00:00:05Z 1970-01-01T00:00:06Z
`, api.Config{
		Zones:     []api.Zone{{Name: "y", Offset: hour}, {Name: "z", Offset: 2 * hour, Rules: []api.YearRule{{From: 2020, To: 2020, Month: 3, Week: 5, Weekday: 6, Second: 7200, Offset: 3 * hour}}}, {Name: "x", Offset: 4 * hour, Rules: []api.YearRule{{From: 2021, To: 2021, Month: 3, Week: 1, Second: 7200, Offset: 3 * hour}}}},
		People:    []api.Person{{Name: "a"}, {Name: "b", Zone: 1, Quiet: []api.Window{{From: 0, To: 21600}}}, {Name: "e", Zone: 2, Quiet: []api.Window{{From: 2 * day, To: 2*day + 21600}}}},
		Calendars: []api.Calendar{{Name: "c", Zone: 1}, {Name: "d", Days: []int{6}}, {Name: "f", Zone: 2, Days: []int{7}}},
		Schedules: []api.Schedule{{Name: "r"}, {Name: "s", Layers: []api.Layer{
			{Name: "k", Start: api.Local{Day: 4}, Every: 1, Members: []int{1}},
			{Name: "l", Zone: 1, Start: api.Local{Day: 5}, Unit: api.UnitDays, Every: 2, Members: []int{0}, Windows: []api.Window{{From: day, To: day + 21600}}, Calendar: 1, Mode: api.ModeNot},
		}, Edits: []api.Edit{{From: 5, To: 6}}}, {Name: "t", Edits: []api.Edit{{Kind: api.EditOverride, A: 2, From: 5, To: 6}}}},
	})
}

// Each statement ahead of what it belongs to or names, and behind it.
func TestStatementsTooEarly(t *testing.T) {
	lines := strings.Split(strings.TrimSuffix(one, "\n"), "\n")
	for _, x := range []struct {
		line   string
		from   int       // the number of lines that have to stand ahead of it
		early  api.Errno // if there are fewer
		behind api.Errno // of the whole, otherwise
	}{
		{"zone x +00:00", 0, api.OK, api.OK}, {"person x z", 1, api.ErrName, api.OK}, {"calendar x z", 1, api.ErrName, api.OK},
		{"rule 2020 2030 mar last sun 02:00 +02:00", 1, api.ErrState, api.OK}, {"quiet mon 00:00 mon 06:00", 2, api.ErrState, api.OK}, {"days 1970-01-05", 4, api.ErrState, api.OK}, {"layer k z 1970-01-05 00:00 1 weeks", 5, api.ErrState, api.ErrEmpty},
		{"member a", 6, api.ErrState, api.OK}, {"member a b", 6, api.ErrState, api.OK}, {"on mon 09:00 tue 24:00", 6, api.ErrState, api.OK}, {"not c", 6, api.ErrState, api.OK}, {"only c", 6, api.ErrState, api.OK},
		{"leave a" + when, 5, api.ErrState, api.OK}, {"override a" + when, 5, api.ErrState, api.OK}, {"override nobody" + when, 5, api.ErrState, api.OK}, {"swap a b" + when, 5, api.ErrState, api.OK},
		// What they name is not looked at ahead of what they belong to.
		{"layer k y 1970-01-05 00:00 1 weeks", 5, api.ErrState, api.ErrName}, {"member x", 6, api.ErrState, api.ErrName}, {"not x", 6, api.ErrState, api.ErrName}, {"only x", 6, api.ErrState, api.ErrName}, {"leave x" + when, 5, api.ErrState, api.ErrName}, {"override x" + when, 5, api.ErrState, api.ErrName}, {"swap x y" + when, 5, api.ErrState, api.ErrName},
	} {
		for i := range len(lines) + 1 {
			all := statements(t, slices.Insert(slices.Clone(lines), i, x.line)...)
			line, want := 0, x.behind
			if i < x.from {
				line, want = i+1, x.early
			} else if x.behind == api.ErrName {
				line = i + 1
			}
			expectBuild(t, fmt.Sprintf("%s as line %d", x.line, i+1), all, line, want)
		}
		if x.early == api.ErrState {
			expectBuild(t, x.line, statements(t, x.line), 1, api.ErrState)
		}
	}
}

// A schedule without layers has none, whatever its predecessors have.
func TestLayersOfTheLastSchedule(t *testing.T) {
	for _, s := range []string{"member a", "on mon 09:00 tue 24:00", "not c", "only c", "member x", "not x"} {
		expectLoad(t, one+"schedule t\n"+s, 9, api.ErrState)
	}
	for _, s := range []string{"leave a" + when, "override nobody" + when, "swap a b" + when, "days 1970-01-05", "quiet mon 00:00 mon 06:00"} {
		expectLoad(t, one+"schedule t\n"+s, 0, api.OK)
	}
	expectLoad(t, one+"schedule t\nlayer l z 1970-01-05 00:00 1 weeks\nmember b\nnot c\nschedule u\nnot c\n", 13, api.ErrState)
}

func TestNotAndOnlyTwice(t *testing.T) {
	for _, first := range []string{"not c", "only c", "not d", "only d"} {
		for _, second := range []string{"not c", "only c", "not d", "only d", "not missing", "only missing"} {
			expectLoad(t, one+"calendar d z\n"+first+"\n"+second+"\n", 10, api.ErrState)
			expectLoad(t, one+"calendar d z\n"+first+"\nmember b\non mon 09:00 tue 24:00\n"+second+"\n", 12, api.ErrState)
			want, line := api.OK, 0
			if strings.HasSuffix(second, "missing") {
				want, line = api.ErrName, 12
			}
			expectLoad(t, one+"calendar d z\n"+first+"\nlayer k z 1970-01-05 00:00 1 weeks\nmember a\n"+second+"\n", line, want)
			if line > 0 {
				line++
			}
			expectLoad(t, one+"calendar d z\n"+first+"\nschedule t\nlayer l z 1970-01-05 00:00 1 weeks\nmember a\n"+second+"\n", line, want)
		}
		// A name that is none does not count as the calendar of the layer.
		expectLoad(t, one+"not missing\n"+first+"\n", 8, api.ErrName)
	}
}

// place is a statement with a place for a word, the words that may stand there, and the numbers that these lead to.
type place struct {
	before, behind, words string
	value                 func(c api.Config) int
	first, step           int
}

// places returns all places for months, ordinals, weekdays and units, behind one.
func places() []place {
	const weekdays = "mon tue wed thu fri sat sun"
	rule := func(c api.Config) api.YearRule { return c.Zones[0].Rules[0] }
	quiet := func(c api.Config) api.Window { return c.People[1].Quiet[0] }
	window := func(c api.Config) api.Window { return layerOf(&c).Windows[0] }
	return []place{
		{"rule 2020 2030 ", " last sun 02:00 +02:00", "jan feb mar apr may jun jul aug sep oct nov dec", func(c api.Config) int { return rule(c).Month }, 1, 1},
		{"rule 2020 2030 mar ", " sun 02:00 +02:00", "first second third fourth last", func(c api.Config) int { return rule(c).Week }, 1, 1},
		{"rule 2020 2030 mar last ", " 02:00 +02:00", weekdays, func(c api.Config) int { return rule(c).Weekday }, 0, 1},
		{"quiet ", " 00:00 sun 24:00", weekdays, func(c api.Config) int { return quiet(c).From }, 0, day},
		{"quiet mon 00:00 ", " 24:00", weekdays, func(c api.Config) int { return quiet(c).To }, day, day},
		{"on ", " 00:00 sun 24:00", weekdays, func(c api.Config) int { return window(c).From }, 0, day},
		{"on mon 00:00 ", " 24:00", weekdays, func(c api.Config) int { return window(c).To }, day, day},
		{"layer k z 1970-01-05 00:00 1 ", "\nmember a", "hours days weeks", func(c api.Config) int { return c.Schedules[0].Layers[1].Unit }, 0, 1},
	}
}

func TestWords(t *testing.T) {
	all := strings.Fields("jan feb mar apr may jun jul aug sep oct nov dec mon tue wed thu fri sat sun first second third fourth last hours days weeks a z c l s x nobody january monday fifth hour day week month months years minutes seconds sunday w none zone rule layer")
	for _, x := range places() {
		for _, s := range all {
			// With everything that the statement needs, it is what is wrong, if the word is.
			line, want := 8, api.ErrText
			if slices.Contains(strings.Fields(x.words), s) {
				line, want = 0, api.OK
			}
			expectLoad(t, one+x.before+s+x.behind, line, want)
			// A wrong word comes ahead of what is missing: the zone, the person, the layer or the schedule, or the zone of a layer.
			missing, unnamed := api.ErrState, api.ErrName
			if want == api.ErrText {
				missing, unnamed = api.ErrText, api.ErrText
			}
			expectLoad(t, x.before+s+x.behind, 1, missing)
			if strings.HasPrefix(x.before, "layer") {
				expectLoad(t, "schedule s\n"+x.before+s+x.behind, 2, unnamed)
			}
		}
	}
	// Where several words are wrong.
	for _, s := range []string{"rule 2020 2030 x y z 02:00 +02:00", "rule 2020 2030 mar y z 02:00 +02:00", "rule 2020 2030 x last z 02:00 +02:00", "rule 2020 2030 sun mar last 02:00 +02:00", "quiet x 00:00 y 06:00", "on x 00:00 y 06:00"} {
		expectLoad(t, s, 1, api.ErrText)
		expectLoad(t, one+s, 8, api.ErrText)
	}
}

// Each word leads to its number.
func TestNumbersOfWords(t *testing.T) {
	for _, x := range places() {
		for i, s := range strings.Fields(x.words) {
			c, _, e := resolve.Load(one + x.before + s + x.behind)
			if e != api.OK {
				t.Errorf("%s%s%s: %d", x.before, s, x.behind, e)
			} else if x.value(c) != x.first+i*x.step {
				t.Errorf("%s%s%s: %+v, %d", x.before, s, x.behind, c, e)
			}
		}
	}
}

func TestMissingNames(t *testing.T) {
	for _, s := range []string{
		"person x missing", "person x a", "person x c", "person x s", "person x nobody", "person x x", "calendar x missing", "calendar x a", "calendar x c", "calendar x s", "layer k missing 1970-01-05 00:00 1 weeks", "layer k a 1970-01-05 00:00 1 weeks", "layer k l 1970-01-05 00:00 1 weeks",
		"member missing", "member z", "member c", "member s", "member nobody", "member a missing", "member missing a", "member a b missing", "member a nobody b", "not missing", "not a", "not z", "not s", "not nobody", "only missing", "only b", "only l", "only nobody",
		"leave missing" + when, "leave nobody" + when, "leave z" + when, "leave c" + when, "override missing" + when, "override s" + when, "swap missing a" + when, "swap a missing" + when, "swap nobody a" + when, "swap a nobody" + when, "swap nobody nobody" + when, "swap z a" + when, "swap a c" + when,
	} {
		expectLoad(t, one+s, 8, api.ErrName)
		expectLoad(t, one+"\n# more\n"+s+"\nschedule t\nmember x\n", 10, api.ErrName)
	}
}

// Only earlier statements give names.
func TestLaterNames(t *testing.T) {
	for _, x := range []struct {
		text string
		line int
	}{
		{"person a z\nzone z +00:00", 1}, {"zone y +00:00\nperson a z\nzone z +00:00", 2}, {"calendar c z\nzone z +00:00", 1}, {"schedule s\nlayer l z 1970-01-05 00:00 1 weeks\nzone z +00:00", 2},
		{one + "member d\nperson d z", 8}, {one + "member a d\nperson d z", 8}, {one + "not d\ncalendar d z", 8}, {one + "only d\ncalendar d z", 8}, {one + "leave d" + when + "\nperson d z", 8}, {one + "override d" + when + "\nperson d z", 8}, {one + "swap d a" + when + "\nperson d z", 8}, {one + "swap a d" + when + "\nperson d z", 8}, {"zone z +00:00\nperson z y\nzone y +00:00", 2},
	} {
		expectLoad(t, x.text, x.line, api.ErrName)
	}
	expectLoad(t, one+"person d z\nmember d\ncalendar d z\nnot d\nleave d"+when+"\nswap d a"+when, 0, api.OK)
}

// Names that are equal, or none, are errors of the whole; nobody may be on leave only if there is a person of this name.
func TestErrorsOfTheWhole(t *testing.T) {
	many := func(n int, line func(i int) string) string {
		var l []string
		for i := range n {
			l = append(l, line(i))
		}
		return strings.Join(l, "\n")
	}
	layers := func(i int) string { return fmt.Sprintf("layer x%d z 1970-01-05 00:00 1 weeks\nmember a", i) }
	for _, x := range []struct {
		text string
		want api.Errno
	}{
		{one + "zone z +01:00", api.ErrTwice}, {one + "person a z", api.ErrTwice}, {one + "calendar c z", api.ErrTwice}, {one + "schedule s", api.ErrTwice}, {one + "layer l z 1970-01-05 00:00 1 weeks\nmember a", api.ErrTwice}, {one + "schedule t\nlayer l z 1970-01-05 00:00 1 weeks\nmember a", api.OK},
		{one + "person nobody z", api.ErrText}, {one + "person nobody z\nleave nobody" + when, api.ErrText}, {one + "person nobody z\noverride nobody" + when, api.ErrText}, {one + "person nobody z\nmember nobody", api.ErrText}, {one + "zone nobody +00:00\ncalendar nobody nobody\nschedule nobody\nlayer nobody nobody 1970-01-05 00:00 1 weeks\nmember a\nnot nobody", api.OK},
		{one + "rule 2030 2020 mar last sun 02:00 +02:00", api.ErrInvalid}, {one + "rule 2020 2020 mar last sun 24:00 +02:00", api.ErrInvalid}, {one + "rule 1969 2020 mar last sun 02:00 +02:00", api.ErrInvalid}, {one + "rule 2020 2241 mar last sun 02:00 +02:00", api.ErrInvalid}, {"zone z +18:00\nrule 2020 2020 mar last sun 02:00 -18:00", api.ErrInvalid}, {one + many(17, func(int) string { return "rule 2020 2020 mar last sun 02:00 +02:00" }), api.ErrInvalid},
		{one + "quiet mon 06:00 mon 06:00", api.ErrInvalid}, {one + "quiet sun 22:00 mon 06:00", api.ErrInvalid}, {one + "quiet mon 06:00 mon 05:59:59", api.ErrInvalid}, {one + "quiet mon 06:00 mon 08:00\nquiet mon 07:00 mon 09:00", api.ErrInvalid}, {one + "quiet tue 06:00 tue 08:00\nquiet mon 07:00 mon 09:00", api.ErrInvalid}, {one + "on mon 06:00 mon 06:00", api.ErrInvalid}, {one + "on sun 22:00 mon 06:00", api.ErrInvalid}, {one + "on mon 06:00 mon 08:00\non mon 07:00 mon 09:00", api.ErrInvalid},
		{one + "days 1970-01-05 1970-01-05", api.ErrOrder}, {one + "days 1970-01-05\ndays 1970-01-05", api.ErrOrder}, {one + "days 1970-01-06\ndays 1970-01-05", api.ErrOrder},
		{one + "layer k z 1970-01-05 00:00 1 weeks", api.ErrEmpty}, {one + "layer k z 1970-01-01 00:00 1 weeks\nmember a", api.ErrRange}, {one + "layer k z 1970-01-02 24:00 1 weeks\nmember a", api.ErrRange}, {one + "layer k z 1970-01-02 00:00 0 weeks\nmember a", api.ErrRange}, {one + "layer k z 1970-01-02 00:00 401 weeks\nmember a", api.ErrRange}, {one + "layer k z 1970-01-02 00:00 400 weeks\nmember a", api.OK},
		{one + "swap a a" + when, api.ErrTwice}, {one + "leave a 1970-01-01T00:00:05Z 1970-01-01T00:00:05Z", api.ErrOrder}, {one + "override a 1970-01-01T00:00:05Z 1970-01-01T00:00:04Z", api.ErrOrder},
		{many(16, func(i int) string { return fmt.Sprintf("zone x%d +00:00", i) }), api.OK}, {many(17, func(i int) string { return fmt.Sprintf("zone x%d +00:00", i) }), api.ErrLimit}, {one + many(30, func(i int) string { return fmt.Sprintf("person x%d z", i) }), api.OK}, {one + many(31, func(i int) string { return fmt.Sprintf("person x%d z", i) }), api.ErrLimit}, {one + many(7, func(i int) string { return fmt.Sprintf("calendar x%d z", i) }), api.OK}, {one + many(8, func(i int) string { return fmt.Sprintf("calendar x%d z", i) }), api.ErrLimit}, {one + many(11, func(i int) string { return fmt.Sprintf("schedule x%d", i) }), api.OK}, {one + many(12, func(i int) string { return fmt.Sprintf("schedule x%d", i) }), api.ErrLimit},
		{one + many(5, layers), api.OK}, {one + many(6, layers), api.ErrLimit}, {one + many(48, func(int) string { return "leave a" + when }), api.OK}, {one + many(49, func(int) string { return "leave a" + when }), api.ErrLimit}, {one + many(11, func(int) string { return "member b" }), api.OK}, {one + many(12, func(int) string { return "member b" }), api.ErrLimit}, {one + "member" + strings.Repeat(" b", 11), api.OK}, {one + "member" + strings.Repeat(" b", 12), api.ErrLimit},
		{one + many(14, func(i int) string { return fmt.Sprintf("on mon 00:%d mon 00:%d", 10+i, 11+i) }), api.OK}, {one + many(15, func(i int) string { return fmt.Sprintf("on mon 00:%d mon 00:%d", 10+i, 11+i) }), api.ErrInvalid}, {one + many(14, func(i int) string { return fmt.Sprintf("quiet mon 00:%d mon 00:%d", 10+i, 11+i) }), api.OK}, {one + many(15, func(i int) string { return fmt.Sprintf("quiet mon 00:%d mon 00:%d", 10+i, 11+i) }), api.ErrInvalid}, {one + many(64, func(i int) string { return fmt.Sprintf("days %d-01-01", 1980+i) }), api.OK}, {one + many(65, func(i int) string { return fmt.Sprintf("days %d-01-01", 1980+i) }), api.ErrLimit},
		{"schedule s\nschedule s\nzone z +00:00\nzone z +00:00\nrule 2030 2020 mar last sun 02:00 +02:00", api.ErrTwice}, {"schedule s\nschedule s\nzone z +00:00\nrule 2030 2020 mar last sun 02:00 +02:00", api.ErrInvalid},
	} {
		expectLoad(t, x.text, 0, x.want)
		// A statement that is wrong by itself comes first.
		expectLoad(t, x.text+"\nnot missing\nmember missing\nleave missing"+when, strings.Count(x.text, "\n")+2, earlier(x.text))
	}
}

// earlier returns the error of not missing behind a text.
func earlier(text string) api.Errno {
	l, _, _ := syntax.Parse(text + "\nnot missing")
	_, e := modelBuild(l)
	return e
}

// noStatements returns tokens that are none of a statement.
func noStatements() [][]api.Token {
	return [][]api.Token{
		nil, {}, {{}}, say("zone"), say("zone", "z"), say("zone", "z", "z"), say("zone", "z", offset(0), "x"), say("zones", "z", offset(0)), say("rule", number(2020)), say("person", "a"), say("person", "a", "z", "week"), say("person", "a", "z", "consent", "week", number(1)), say("quiet", "mon", clock(0), "tue"), say("calendar", "c"), say("days"), say("days", "c"), say("schedule"), say("schedule", number(1)), say("schedule", "a", "b"), say("layer", "l", "z"),
		say("member"), say("member", number(0)), say("member", "a", number(0)), say("on", "mon", clock(0), "tue", number(5)), say("not"), say("only", "c", "d"), say("leave", "a", instant(1)), say("leave", "a", "b", instant(1), instant(2)), say("override", instant(1), instant(2)), say("swap", "a", instant(1), instant(2)), say("x"), say("nobody"), say(number(7)), say("Schedule", "s"), say("", "s"), {{Kind: 6, Text: "schedule"}, word("s")}, {{Kind: -1, Text: "schedule"}, word("s")}, {word("schedule"), {Kind: 9, Text: "s"}},
	}
}

func TestTokensOfNoStatement(t *testing.T) {
	good := statements(t, strings.Split(strings.TrimSuffix(one, "\n"), "\n")...)
	for _, tokens := range noStatements() {
		wrong := api.Statement{Line: 55, Tokens: tokens}
		expectBuild(t, tokens, []api.Statement{wrong}, 55, api.ErrText)
		for i := range len(good) + 1 {
			expectBuild(t, tokens, slices.Insert(slices.Clone(good), i, wrong), 55, api.ErrText)
		}
		// The first wrong statement counts, also if one behind it has an error that is named first.
		expectBuild(t, tokens, []api.Statement{good[1], wrong}, 2, api.ErrName)
		expectBuild(t, tokens, []api.Statement{good[6], wrong}, 7, api.ErrState)
		expectBuild(t, tokens, []api.Statement{good[0], wrong, good[0], good[6]}, 55, api.ErrText)
	}
}

func TestLines(t *testing.T) {
	for _, line := range []int{0, 1, -1, 77, math.MinInt, math.MaxInt} {
		for _, x := range []struct {
			line string
			want api.Errno
		}{{"member a", api.ErrState}, {"person a z", api.ErrName}, {"quiet x 00:00 y 06:00", api.ErrText}, {"schedule", api.ErrText}} {
			for _, before := range []string{"", "schedule s\n", "schedule r\nschedule s\nzone y +00:00\n"} {
				l := statements(t, strings.Split(before+x.line+"\nmember b\nschedule", "\n")...)
				i := strings.Count(before, "\n")
				l[i].Line = line
				expectBuild(t, before+x.line, l, line, x.want)
			}
		}
		l := statements(t, "schedule s", "schedule s")
		l[0].Line, l[1].Line = line, line
		expectBuild(t, "two schedules", l, 0, api.ErrTwice)
		expectBuild(t, "a schedule", l[:1], 0, api.OK)
	}
	expectBuild(t, "no statements", nil, 0, api.OK)
	expectBuild(t, "no statements", []api.Statement{}, 0, api.OK)
}

// Numbers that no word has do not overflow into right ones.
func TestExtremeNumbers(t *testing.T) {
	begin := statements(t, strings.Split(strings.TrimSuffix(one, "\n"), "\n")...)
	expect := func(want api.Errno, parts ...any) {
		t.Helper()
		l := append(slices.Clone(begin), api.Statement{Line: 8, Tokens: say(parts...)})
		if parts[0] == "layer" {
			l = append(l, begin[6])
		}
		expectBuild(t, parts, l, 0, want)
	}
	extreme := []int{math.MinInt, math.MinInt + 1, math.MinInt / 2, -1 << 60, -1 << 32, 1 << 32, 1 << 60, 1 << 61, 1 << 62, math.MaxInt / 2, math.MaxInt - 1, math.MaxInt}
	for _, n := range append(slices.Clone(extreme), -1, 169, 170, 1000, -168, math.MaxInt/hour, math.MaxInt/hour+1, 1<<60+40, 1<<61-8, -1<<60+1) {
		expect(api.ErrRange, "person", "x", "z", "week", number(n))
		expect(api.ErrRange, "person", "x", "z", "rest", number(n))
		expect(api.ErrRange, "person", "x", "z", "week", number(1), "rest", number(n), "consent")
		expect(api.ErrRange, "person", "x", "z", "week", number(n), "rest", number(0))
	}
	for _, n := range append(slices.Clone(extreme), wholeWk+1, -wholeWk, -1<<62-1, math.MaxInt-6*day) {
		for weekday := range 7 {
			expect(api.ErrInvalid, "on", "mon", clock(0), weekdayOf(weekday), clock(n))
			expect(api.ErrInvalid, "on", weekdayOf(weekday), clock(n), "sun", clock(day))
			expect(api.ErrInvalid, "on", weekdayOf(weekday), clock(n), weekdayOf(weekday), clock(n))
			expect(api.ErrInvalid, "quiet", "mon", clock(0), weekdayOf(weekday), clock(n))
			expect(api.ErrInvalid, "quiet", weekdayOf(weekday), clock(n), "sun", clock(day))
		}
	}
	for _, n := range extreme {
		expect(api.ErrInvalid, "zone", "x", offset(n))
		expect(api.ErrInvalid, "rule", number(n), number(2020), "mar", "last", "sun", clock(0), offset(60))
		expect(api.ErrInvalid, "rule", number(2020), number(n), "mar", "last", "sun", clock(0), offset(60))
		expect(api.ErrInvalid, "rule", number(2020), number(2020), "mar", "last", "sun", clock(n), offset(60))
		expect(api.ErrInvalid, "rule", number(2020), number(2020), "mar", "last", "sun", clock(0), offset(n))
		expect(api.ErrRange, "days", date(n))
		expect(api.ErrRange, "days", date(5), date(n), date(4))
		expect(api.ErrRange, "layer", "k", "z", date(n), clock(0), number(1), "days")
		expect(api.ErrRange, "layer", "k", "z", date(1), clock(n), number(1), "days")
		expect(api.ErrRange, "layer", "k", "z", date(1), clock(0), number(n), "days")
	}
	for _, n := range []int{math.MinInt, -1, end, api.MaxInstant, math.MaxInt} {
		expect(api.ErrRange, "leave", "a", instant(0), instant(n))
		expect(api.ErrRange, "override", "nobody", instant(n), instant(n))
		expect(api.ErrRange, "swap", "a", "b", instant(-5), instant(n))
	}
	expect(api.ErrOrder, "leave", "a", instant(math.MaxInt), instant(1))
	expect(api.ErrInvalid, "zone", "x", offset(30))
	expect(api.ErrInvalid, "rule", number(2020), number(2020), "mar", "last", "sun", clock(0), offset(61))
	for _, name := range []string{"", "A", "a b", "é", longest + "x"} {
		expect(api.ErrText, "zone", name, offset(0))
		expect(api.ErrText, "person", name, "z")
		expect(api.ErrText, "calendar", name, "z")
		expect(api.ErrText, "schedule", name)
		expect(api.ErrText, "layer", name, "z", date(1), clock(0), number(1), "days")
	}
}

// Only the kinds and the numbers of numbers count, and only the kinds and the texts of words.
func TestNeedlessFields(t *testing.T) {
	l := statements(t, "zone z +01:00", "rule 2020 2030 mar last sun 02:00 +02:00", "person a z week 1 rest 2", "person b z week 3", "person d z rest 4 consent", "calendar c z", "days 1970-01-05 1970-01-06", "schedule s", "layer l z 1970-01-05 09:00 1 weeks", "member a b", "on mon 09:00 tue 17:00", "only c", "override nobody"+when)
	want, line, e := resolve.Build(l)
	if line != 0 || e != api.OK {
		t.Fatal(want, line, e)
	}
	for _, s := range []string{"consent", "week", "rest", "nobody", "x", "mon", "member"} {
		for _, n := range []int{0, 1, -1, math.MaxInt} {
			other := slices.Clone(l)
			for i := range other {
				other[i].Tokens = slices.Clone(other[i].Tokens)
				for k := range other[i].Tokens {
					if x := &other[i].Tokens[k]; x.Kind == api.TokenWord {
						x.Num = n
					} else {
						x.Text = s
					}
				}
			}
			if c, line, e := resolve.Build(other); !same(c, want) || line != 0 || e != api.OK {
				t.Errorf("%q, %d: Build = %+v, line %d, %d, want %+v", s, n, c, line, e, want)
			}
		}
	}
}

// P8.3

func TestTextsWithErrorsOfSyntax(t *testing.T) {
	wide := "#" + strings.Repeat(" ", api.MaxLine)
	for _, x := range []struct {
		text string
		line int
		want api.Errno
	}{
		{"schedule", 1, api.ErrText}, {"x", 1, api.ErrText}, {"schedule A", 1, api.ErrText}, {"\xff", 1, api.ErrText}, {"\n\n7\n", 3, api.ErrText}, {one + "days", 8, api.ErrText}, {one + "days 2023-02-29", 8, api.ErrText}, {one + "member a\r\n", 8, api.ErrText}, {one + "zone x +18:01", 8, api.ErrText}, {one + "on mon 24:01 tue 00:00", 8, api.ErrText}, {"zone z +19:00\n" + one, 1, api.ErrText},
		{wide, 1, api.ErrLimit}, {one + wide, 8, api.ErrLimit}, {wide + "\nx", 1, api.ErrLimit}, {"x\n" + wide, 1, api.ErrText}, {wide[1:], 0, api.OK},
		{strings.Repeat("\n", api.MaxText), 0, api.OK}, {strings.Repeat("\n", api.MaxText+1), 0, api.ErrLimit}, {strings.Repeat("\n", api.MaxText-len(one)) + one, 0, api.OK}, {strings.Repeat("\n", api.MaxText+1-len(one)) + one, 0, api.ErrLimit}, {strings.Repeat("x", api.MaxText+1), 0, api.ErrLimit}, {strings.Repeat("x", api.MaxText), 1, api.ErrLimit},
		// A line that is wrong by its form comes ahead of statements that are wrong otherwise, wherever they are.
		{"member a\nschedule", 2, api.ErrText}, {"person a z\nx", 2, api.ErrText}, {"quiet x 00:00 y 00:00\n" + wide, 2, api.ErrLimit}, {one + one + "7", 15, api.ErrText}, {"quiet x 00:00 y 00:00\nschedule", 2, api.ErrText},
		{"member a\n", 1, api.ErrState}, {"\n# x\n\nmember a # y\n", 4, api.ErrState}, {"\nperson a z", 2, api.ErrName}, {"\n\n\nquiet x 00:00 y 00:00", 4, api.ErrText}, {"  schedule   s  # z\n\n  member   a", 3, api.ErrState}, {one + one, 0, api.ErrTwice},
	} {
		c, line, e := resolve.Load(x.text)
		if line != x.line || e != x.want || e != api.OK && !isZero(c) {
			t.Errorf("%.300q: Load = %+v, line %d, %d, want line %d, %d", x.text, c, line, e, x.line, x.want)
		}
	}
}

// P8.4

func TestFinding(t *testing.T) {
	long := api.Config{People: numbered(32, newPerson), Schedules: numbered(12, newSchedule)}
	// Nothing else of the configuration has to be right, and of equal names the first one is found.
	wrong := api.Config{
		People:    []api.Person{{Name: "b", Zone: 9}, {Name: "nobody"}, {Name: "b"}, {Name: "A B"}, {Name: ""}, {Name: "nobody"}},
		Schedules: []api.Schedule{{Name: ""}, {Name: "s"}, {Name: "A B"}, {Name: "s"}, {Name: ""}, {Name: "t", Layers: make([]api.Layer, 9)}},
	}
	for i, x := range []struct {
		c                api.Config
		name             string
		person, schedule int // -1: there is none
	}{
		{full(), "ann", 0, -1}, {full(), "bob", 1, -1}, {full(), "cid", 2, -1}, {full(), "web", -1, 0}, {full(), "empty", -1, 1}, {full(), "db", -1, 2},
		{full(), "utc", -1, -1}, {full(), "feasts", -1, -1}, {full(), "none", -1, -1}, {full(), "base", -1, -1}, {full(), "night", -1, -1}, {full(), "", -1, -1}, {full(), "nobody", -1, -1}, {full(), "an", -1, -1}, {full(), "annn", -1, -1}, {full(), "Ann", -1, -1}, {full(), "ann ", -1, -1}, {full(), " db", -1, -1}, {full(), "b", -1, -1}, {full(), "DB", -1, -1}, {full(), "\xff", -1, -1}, {full(), "web\x00", -1, -1},
		{api.Config{}, "ann", -1, -1}, {api.Config{}, "", -1, -1}, {api.Config{People: []api.Person{}, Schedules: []api.Schedule{}}, "", -1, -1}, {api.Config{Zones: full().Zones, Calendars: full().Calendars}, "none", -1, -1}, {api.Config{People: full().People}, "bob", 1, -1}, {api.Config{People: full().People}, "db", -1, -1}, {api.Config{Schedules: full().Schedules}, "db", -1, 2}, {api.Config{Schedules: full().Schedules}, "ann", -1, -1},
		{long, "x0", 0, 0}, {long, "x11", 11, 11}, {long, "x12", 12, -1}, {long, "x31", 31, -1}, {long, "x32", -1, -1}, {long, "x", -1, -1},
		{wrong, "b", 0, -1}, {wrong, "A B", 3, 2}, {wrong, "", 4, 0}, {wrong, "nobody", 1, -1}, {wrong, "s", -1, 1}, {wrong, "t", -1, 5}, {wrong, "x", -1, -1},
	} {
		for kind, f := range map[string]struct {
			find func(c api.Config, name string) (int, bool)
			want int
		}{"Person": {resolve.Person, x.person}, "Schedule": {resolve.Schedule, x.schedule}} {
			before := fmt.Sprintf("%+v", x.c)
			n, ok := f.find(x.c, x.name)
			if n != max(f.want, 0) || ok != (f.want >= 0) {
				t.Errorf("%d: %s(%q) = %d, %v, want %d", i, kind, x.name, n, ok, f.want)
			}
			if fmt.Sprintf("%+v", x.c) != before {
				t.Errorf("%d: %s has changed its argument", i, kind)
			}
		}
	}
}

// R2 and R6

// Results share no memory with the statements, and none with each other.
func TestResultsStay(t *testing.T) {
	l, _, _ := syntax.Parse(text)
	first, _, _ := resolve.Build(l)
	second, _, _ := resolve.Build(l)
	third, _, _ := resolve.Load(text)
	for i := range l {
		for k := range l[i].Tokens {
			l[i].Tokens[k] = api.Token{Kind: 3, Text: "gone", Num: -1}
		}
	}
	for _, x := range numbersOf(&first) {
		*x = -99
	}
	for _, x := range namesOf(&first) {
		*x = "changed"
	}
	first.Schedules[0].Layers = append(first.Schedules[0].Layers[:1], newLayer("x"))
	first.Schedules[0].Layers[0].Members = append(first.Schedules[0].Layers[0].Members, 7)
	for i, c := range []api.Config{second, third} {
		if !same(c, full()) {
			t.Errorf("%d: %+v", i, c)
		}
	}
	// Lists that stand in one result one behind the other do not reach into each other.
	days := second.Calendars[0].Days
	_ = append(days, -1, -1, -1, -1)
	_ = append(second.Schedules[0].Layers, newLayer("x"), newLayer("y"))
	_ = append(second.Zones[1].Rules, api.YearRule{}, api.YearRule{})
	if !same(second, full()) {
		t.Errorf("%+v", second)
	}
}

func TestExamples(t *testing.T) {
	c, line, e := resolve.Load("zone z +00:00\nperson a z\nschedule s\nlayer l z 2026-01-05 09:00 1 weeks\nmember a\n")
	if len(c.Zones) != 1 || len(c.People) != 1 || len(c.Calendars) != 0 || len(c.Schedules) != 1 || len(c.Schedules[0].Layers) != 1 || line != 0 || e != api.OK {
		t.Error(c, line, e)
	}
	expectLoad(t, "zone z +00:00\nperson a z\nschedule s\nmember a", 4, api.ErrState)
	expectLoad(t, "zone z +00:00\nperson a y", 2, api.ErrName)
}
