package print_test

import (
	"fmt"
	"math"
	"slices"
	"strings"
	"testing"

	"pagewatch/api"
	"pagewatch/print"
	"pagewatch/resolve"
	"pagewatch/syntax"
)

// P9.1

// splitLines returns the lines of a text.
func splitLines(text string) []string {
	return strings.Split(strings.TrimSuffix(text, "\n"), "\n")
}

func TestFull(t *testing.T) {
	expectLines(t, "full", full(), splitLines(fullText))
	if got := modelLines(full()); !slices.Equal(got, splitLines(fullText)) {
		t.Errorf("the model says %q", got)
	}
}

// The first example of chapter 8.
func TestExample(t *testing.T) {
	lines := []string{"zone z +00:00", "person a z", "schedule s", "layer l z 2026-01-05 09:00 1 weeks", "member a"}
	c, line, e := resolve.Load(strings.Join(lines, "\n"))
	if line != 0 || e != api.OK {
		t.Fatal(line, e)
	}
	expectLines(t, "the example", c, lines)
}

func TestLines(t *testing.T) {
	l, e := print.Statements(full())
	if len(l) != 36 || e != api.OK {
		t.Fatalf("%d statements, %d", len(l), e)
	}
	for i, s := range l {
		if s.Line != i+1 {
			t.Errorf("statement %d has the line %d", i, s.Line)
		}
	}
}

func TestMissingLists(t *testing.T) {
	expectLines(t, "nothing", api.Config{}, nil)
	expectLines(t, "empty lists", api.Config{Zones: []api.Zone{}, People: []api.Person{}, Calendars: []api.Calendar{}, Schedules: []api.Schedule{}}, nil)
	c := full()
	expectLines(t, "zones alone", api.Config{Zones: c.Zones}, splitLines(fullText)[:5])
	expectLines(t, "zones and people", api.Config{Zones: c.Zones, People: c.People}, splitLines(fullText)[:11])
	expectLines(t, "no schedules", api.Config{Zones: c.Zones, People: c.People, Calendars: c.Calendars, Schedules: []api.Schedule{}}, splitLines(fullText)[:16])
	expectLines(t, "no people", api.Config{Zones: c.Zones, People: []api.Person{}, Calendars: c.Calendars}, slices.Concat(splitLines(fullText)[:5], splitLines(fullText)[11:16]))
	expectLines(t, "a schedule alone", api.Config{Schedules: []api.Schedule{{Name: "s"}}}, []string{"schedule s"})
	expectLines(t, "an edit alone", api.Config{Schedules: []api.Schedule{{Name: "s", Edits: []api.Edit{{Kind: api.EditOverride, A: -1, To: 1}}}}}, []string{"schedule s", "override nobody 1970-01-01T00:00:00Z 1970-01-01T00:00:01Z"})
	c = clone(c)
	c.Calendars = nil
	c.Schedules = []api.Schedule{{Name: "s", Layers: c.Schedules[0].Layers[:1]}}
	expectLines(t, "no calendars", c, slices.Concat(splitLines(fullText)[:11], []string{"schedule s"}, splitLines(fullText)[17:19]))
}

func TestEmptyLists(t *testing.T) {
	for _, empty := range []bool{false, true} {
		c := api.Config{Zones: []api.Zone{{Name: "z"}}, People: []api.Person{{Name: "a"}}, Calendars: []api.Calendar{{Name: "c"}}, Schedules: []api.Schedule{{Name: "r"}, {Name: "s", Layers: []api.Layer{{Name: "l", Start: api.Local{Day: 1}, Every: 1, Members: []int{0}}}}}}
		if empty {
			c.Zones[0].Rules, c.People[0].Quiet, c.Calendars[0].Days = []api.YearRule{}, []api.Window{}, []int{}
			c.Schedules[0].Layers, c.Schedules[0].Edits = []api.Layer{}, []api.Edit{}
			c.Schedules[1].Layers[0].Windows = []api.Window{}
		}
		expectLines(t, fmt.Sprint("empty ", empty), c, []string{"zone z +00:00", "person a z", "calendar c z", "schedule r", "schedule s", "layer l z 1970-01-02 00:00 1 hours", "member a"})
	}
}

func TestOffsets(t *testing.T) {
	for n := -64800; n <= 64800; n += 60 {
		text := fmt.Sprintf("%+03d:%02d", n/hour, n/60%60)
		if n < 0 {
			text = fmt.Sprintf("-%02d:%02d", -n/hour, -n/60%60)
		}
		expectLines(t, text, api.Config{Zones: []api.Zone{{Name: "z", Offset: n}}}, []string{"zone z " + text})
		rule := api.YearRule{From: 2000, To: 2000, Month: 1, Week: 1, Offset: n}
		expectLines(t, "a rule with "+text, api.Config{Zones: []api.Zone{{Name: "z", Rules: []api.YearRule{rule}}}}, []string{"zone z +00:00", "rule 2000 2000 jan first mon 00:00 " + text})
	}
}

func TestRules(t *testing.T) {
	for month := range 12 {
		for ordinal := range 5 {
			for weekday := range 7 {
				from, second := 1970+month*20, weekday*12345
				rule := api.YearRule{From: from, To: from + ordinal, Month: month + 1, Week: ordinal + 1, Weekday: weekday, Second: second, Offset: -60}
				line := fmt.Sprintf("rule %d %d %s %s %s %s -00:01", from, from+ordinal, months[month], ordinals[ordinal], weekdays[weekday], clockText(second))
				expectLines(t, line, api.Config{Zones: []api.Zone{{Name: "z", Rules: []api.YearRule{rule}}}}, []string{"zone z +00:00", line})
			}
		}
	}
	var z api.Zone
	z.Name = "z"
	lines := []string{"zone z +00:00"}
	for i := range 16 {
		z.Rules = append(z.Rules, api.YearRule{From: 2240 - i, To: 2240, Month: 12, Week: 5, Second: day - 1})
		lines = append(lines, fmt.Sprintf("rule %d 2240 dec last mon 23:59:59 +00:00", 2240-i))
	}
	expectLines(t, "16 rules", api.Config{Zones: []api.Zone{z}}, lines)
	z.Rules = append(z.Rules, z.Rules[0])
	expectError(t, "17 rules", api.Config{Zones: []api.Zone{z}}, api.ErrInvalid)
}

func TestOptions(t *testing.T) {
	quiet := []api.Window{{From: 5, To: 60}, {From: day, To: 2 * day}}
	for _, x := range []struct {
		p    api.Person
		text string
	}{
		{api.Person{}, ""}, {api.Person{MaxWeek: 40 * hour}, " week 40"}, {api.Person{MinRest: 11 * hour}, " rest 11"}, {api.Person{Consent: true}, " consent"},
		{api.Person{MaxWeek: hour, MinRest: wholeWk}, " week 1 rest 168"}, {api.Person{MaxWeek: wholeWk, Consent: true}, " week 168 consent"}, {api.Person{MinRest: hour, Consent: true}, " rest 1 consent"}, {api.Person{MaxWeek: 2 * hour, MinRest: 3 * hour, Consent: true}, " week 2 rest 3 consent"},
	} {
		x.p.Name = "a"
		c := api.Config{Zones: []api.Zone{{Name: "y"}, {Name: "z"}}, People: []api.Person{x.p}}
		lines := []string{"zone y +00:00", "zone z +00:00", "person a y" + x.text}
		expectLines(t, x.text, c, lines)
		c.People[0].Zone, lines[2] = 1, "person a z"+x.text
		expectLines(t, x.text+" in the other zone", c, lines)
		c.People[0].Quiet = quiet
		lines = append(lines, "quiet mon 00:00:05 mon 00:01", "quiet tue 00:00 tue 24:00")
		expectLines(t, x.text+" with quiet hours", c, lines)
		c.People = append(c.People, api.Person{Name: "b"}, x.p)
		c.People[2].Name = "c"
		expectLines(t, x.text+" among others", c, append(lines, "person b y", "person c y"+x.text))
	}
	for n := 1; n <= 168; n++ {
		c := api.Config{Zones: []api.Zone{{Name: "z"}}, People: []api.Person{{Name: "a", MaxWeek: n * hour, MinRest: (169 - n) * hour}}}
		expectLines(t, fmt.Sprint(n, " hours"), c, []string{"zone z +00:00", fmt.Sprintf("person a z week %d rest %d", n, 169-n)})
	}
}

// Names that are keywords or words of another kind are names all the same.
func TestNames(t *testing.T) {
	for _, name := range []string{"a", "zone", "week", "rest", "consent", "mon", "days", "member", "not", "x-1", "x_1", longest} {
		c := full()
		c.Zones[0].Name, c.People[1].Name, c.Calendars[1].Name, c.Schedules[2].Name, c.Schedules[2].Layers[0].Name = name, name, name, name, name
		lines := modelLines(c)
		expectLines(t, name, c, lines)
		tail := []string{"schedule " + name, "layer " + name + " " + name + " 1970-01-06 23:59:59 2 weeks", "member " + name + " " + name + " ann", "not " + name, "override " + name + " 1970-01-01T00:00:09Z 1970-01-01T00:16:39Z"}
		if lines[0] != "zone "+name+" +00:00" || lines[6] != "person "+name+" "+name+" week 40 rest 11 consent" || lines[13] != "calendar "+name+" "+name || !slices.Equal(lines[31:], tail) {
			t.Errorf("the model says %q", lines)
		}
	}
	c := full()
	c.Zones[0].Name, c.Calendars[1].Name, c.Schedules[1].Name, c.Schedules[2].Layers[0].Name = "nobody", "nobody", "nobody", "nobody"
	expectLines(t, "nobody", c, modelLines(c))
}

// ascending returns n days that ascend.
func ascending(first, n int) []int {
	var l []int
	for i := range n {
		l = append(l, first+3*i)
	}
	return l
}

func TestDays(t *testing.T) {
	daysLine := func(days []int) string {
		line := "days"
		for _, n := range days {
			line += " " + dateText(n)
		}
		return line
	}
	for n := range 65 {
		for _, first := range []int{0, 20000, lastDay - 192} {
			days := ascending(first, n)
			c := api.Config{Zones: []api.Zone{{Name: "z"}}, Calendars: []api.Calendar{{Name: "c", Days: days}, {Name: "d", Days: ascending(7, 1)}, {Name: "e", Days: days}}}
			var lines []string
			if n > 0 {
				lines = append(lines, daysLine(days[:min(n, 32)]))
			}
			if n > 32 {
				lines = append(lines, daysLine(days[32:]))
			}
			all := slices.Concat([]string{"zone z +00:00", "calendar c z"}, lines, []string{"calendar d z", "days 1970-01-08", "calendar e z"}, lines)
			expectLines(t, fmt.Sprintf("%d days from %d on", n, first), c, all)
		}
	}
	c := api.Config{Zones: []api.Zone{{Name: "z"}}, Calendars: []api.Calendar{{Name: "c", Days: ascending(0, 65)}}}
	expectError(t, "65 days", c, api.ErrLimit)
	c.Calendars[0].Days = []int{0, lastDay}
	expectLines(t, "the first and the last day", c, []string{"zone z +00:00", "calendar c z", "days 1970-01-01 2240-12-31"})
	c.Calendars[0].Days = []int{lastDay + 1}
	expectError(t, "a day after the last one", c, api.ErrRange)
}

// layered returns a configuration with one layer, and the lines ahead of it.
func layered(l api.Layer) (api.Config, []string) {
	return api.Config{
		Zones: []api.Zone{{Name: "y"}, {Name: "z"}}, People: []api.Person{{Name: "a"}, {Name: "b"}, {Name: "c"}},
		Calendars: []api.Calendar{{Name: "j"}, {Name: "k"}}, Schedules: []api.Schedule{{Name: "s", Layers: []api.Layer{l}}},
	}, []string{"zone y +00:00", "zone z +00:00", "person a y", "person b y", "person c y", "calendar j y", "calendar k y", "schedule s"}
}

func TestLayers(t *testing.T) {
	for i, x := range []struct {
		l     api.Layer
		lines []string
	}{
		{api.Layer{Name: "l", Start: api.Local{Day: 1}, Unit: api.UnitHours, Every: 1, Members: []int{0}}, []string{"layer l y 1970-01-02 00:00 1 hours", "member a"}},
		{api.Layer{Name: "l", Zone: 1, Start: api.Local{Day: lastDay, Second: day - 1}, Unit: api.UnitDays, Every: 400, Members: []int{2, 1, 0}}, []string{"layer l z 2240-12-31 23:59:59 400 days", "member c b a"}},
		{api.Layer{Name: "l", Start: api.Local{Day: 20458, Second: 34200}, Unit: api.UnitWeeks, Every: 26, Members: []int{1, 1, 1}}, []string{"layer l y 2026-01-05 09:30 26 weeks", "member b b b"}},
		{api.Layer{Name: "l", Start: api.Local{Day: 5, Second: 61}, Every: 2, Members: []int{0, 1, 2, 0, 1, 2, 2, 1, 0, 0, 0, 1}}, []string{"layer l y 1970-01-06 00:01:01 2 hours", "member a b c a b c c b a a a b"}},
		{api.Layer{Name: "l", Start: api.Local{Day: 5}, Every: 2, Members: []int{0}, Mode: api.ModeNot}, []string{"layer l y 1970-01-06 00:00 2 hours", "member a", "not j"}},
		{api.Layer{Name: "l", Start: api.Local{Day: 5}, Every: 2, Members: []int{0}, Mode: api.ModeNot, Calendar: 1}, []string{"layer l y 1970-01-06 00:00 2 hours", "member a", "not k"}},
		{api.Layer{Name: "l", Start: api.Local{Day: 5}, Every: 2, Members: []int{0}, Mode: api.ModeOnly}, []string{"layer l y 1970-01-06 00:00 2 hours", "member a", "only j"}},
		{api.Layer{Name: "l", Start: api.Local{Day: 5}, Every: 2, Members: []int{0}, Mode: api.ModeOnly, Calendar: 1, Windows: []api.Window{{From: 0, To: 1}, {From: 1, To: 2}}}, []string{"layer l y 1970-01-06 00:00 2 hours", "member a", "on mon 00:00 mon 00:00:01", "on mon 00:00:01 mon 00:00:02", "only k"}},
	} {
		c, lines := layered(x.l)
		expectLines(t, fmt.Sprint("layer ", i), c, append(lines, x.lines...))
		// The edits stand behind all layers.
		for name := range strings.FieldsSeq("k j i h g") {
			c.Schedules[0].Layers = append(c.Schedules[0].Layers, x.l)
			c.Schedules[0].Layers[len(c.Schedules[0].Layers)-1].Name = name
		}
		c.Schedules[0].Edits = []api.Edit{{A: 1, To: 5}}
		for name := range strings.FieldsSeq("l k j i h g") {
			lines = append(lines, strings.Replace(x.lines[0], "layer l", "layer "+name, 1))
			lines = append(lines, x.lines[1:]...)
		}
		expectLines(t, fmt.Sprint("six layers ", i), c, append(lines, "leave b 1970-01-01T00:00:00Z 1970-01-01T00:00:05Z"))
	}
	for unit, word := range units {
		for n := 1; n <= 400; n++ {
			c, lines := layered(api.Layer{Name: "l", Start: api.Local{Day: n}, Unit: unit, Every: n, Members: []int{0}})
			expectLines(t, fmt.Sprint(n, word), c, append(lines, fmt.Sprintf("layer l y %s 00:00 %d %s", dateText(n), n, word), "member a"))
		}
	}
}

func TestMembers(t *testing.T) {
	var c api.Config
	c.Zones = []api.Zone{{Name: "z"}}
	lines := []string{"zone z +00:00"}
	for i := range 32 {
		c.People = append(c.People, api.Person{Name: fmt.Sprintf("%s%02d", longest[:22], i)})
		lines = append(lines, "person "+c.People[i].Name+" z")
	}
	c.Schedules = []api.Schedule{{Name: "s", Layers: []api.Layer{{Name: "l", Start: api.Local{Day: 1}, Every: 1}}}}
	lines = append(lines, "schedule s", "layer l z 1970-01-02 00:00 1 hours", "member")
	for n := range 12 {
		c.Schedules[0].Layers[0].Members = append(c.Schedules[0].Layers[0].Members, 31-n)
		lines[len(lines)-1] += fmt.Sprintf(" %s%02d", longest[:22], 31-n)
		expectLines(t, fmt.Sprint(n+1, " members"), c, lines)
	}
	c.Schedules[0].Layers[0].Members = append(c.Schedules[0].Layers[0].Members, 5)
	expectError(t, "13 members", c, api.ErrLimit)
}

func TestWindows(t *testing.T) {
	for _, x := range []struct {
		w    api.Window
		text string
	}{
		{api.Window{From: 0, To: day}, "mon 00:00 mon 24:00"}, {api.Window{From: 0, To: wholeWk}, "mon 00:00 sun 24:00"}, {api.Window{From: 0, To: 1}, "mon 00:00 mon 00:00:01"}, {api.Window{From: wholeWk - 1, To: wholeWk}, "sun 23:59:59 sun 24:00"}, {api.Window{From: day - 1, To: day}, "mon 23:59:59 mon 24:00"}, {api.Window{From: day, To: day + 1}, "tue 00:00 tue 00:00:01"}, {api.Window{From: day - 1, To: day + 1}, "mon 23:59:59 tue 00:00:01"},
		{api.Window{From: day, To: 2 * day}, "tue 00:00 tue 24:00"}, {api.Window{From: 2 * day, To: 3 * day}, "wed 00:00 wed 24:00"}, {api.Window{From: 3 * day, To: 4 * day}, "thu 00:00 thu 24:00"}, {api.Window{From: 4 * day, To: 5 * day}, "fri 00:00 fri 24:00"}, {api.Window{From: 5 * day, To: 6 * day}, "sat 00:00 sat 24:00"}, {api.Window{From: 6 * day, To: 7 * day}, "sun 00:00 sun 24:00"}, {api.Window{From: 0, To: 5 * day}, "mon 00:00 fri 24:00"},
		{api.Window{From: 32400, To: 61200}, "mon 09:00 mon 17:00"}, {api.Window{From: day + 79200, To: 2*day + 21600}, "tue 22:00 wed 06:00"}, {api.Window{From: 5*day + 1, To: 7*day - 1}, "sat 00:00:01 sun 23:59:59"}, {api.Window{From: 60, To: 3661}, "mon 00:01 mon 01:01:01"},
	} {
		if got := windowText(x.w); got != x.text {
			t.Errorf("%v: the model says %s, not %s", x.w, got, x.text)
		}
		expectWindows(t, []api.Window{x.w}, []string{x.text})
	}
	// All pairs of borders around each midnight and in each day.
	var borders []int
	for n := range 8 {
		borders = append(borders, n*day-1, n*day, n*day+1, n*day+34200, n*day+34207)
	}
	borders = slices.DeleteFunc(borders, func(n int) bool { return n < 0 || n > wholeWk })
	for i, to := range borders {
		for _, from := range borders[:i] {
			w := api.Window{From: from, To: to}
			expectWindows(t, []api.Window{w}, []string{windowText(w)})
		}
	}
	expectWindows(t, []api.Window{{From: 0, To: 5}, {From: 5, To: day}, {From: day, To: 3 * day}, {From: 6*day + 5, To: wholeWk}}, []string{"mon 00:00 mon 00:00:05", "mon 00:00:05 mon 24:00", "tue 00:00 wed 24:00", "sun 00:00:05 sun 24:00"})
	var many []api.Window
	var texts []string
	for i := range 14 {
		many = append(many, api.Window{From: i * day / 2, To: i*day/2 + hour})
		texts = append(texts, []string{weekdays[i/2] + " 00:00 " + weekdays[i/2] + " 01:00", weekdays[i/2] + " 12:00 " + weekdays[i/2] + " 13:00"}[i%2])
	}
	expectWindows(t, many, texts)
}

// expectWindows fails unless quiet hours and windows of a layer are told by texts.
func expectWindows(t *testing.T, l []api.Window, texts []string) {
	t.Helper()
	c, lines := layered(api.Layer{Name: "l", Start: api.Local{Day: 1}, Every: 1, Members: []int{0}, Windows: l})
	c.People[1].Quiet = l
	var quiet, on []string
	for _, s := range texts {
		quiet, on = append(quiet, "quiet "+s), append(on, "on "+s)
	}
	all := slices.Concat(lines[:4], quiet, lines[4:], []string{"layer l y 1970-01-02 00:00 1 hours", "member a"}, on)
	expectLines(t, fmt.Sprint(l), c, all)
}

func TestEdits(t *testing.T) {
	c := api.Config{Zones: []api.Zone{{Name: "z"}}, People: []api.Person{{Name: "a"}, {Name: "b"}, {Name: "c"}}, Schedules: []api.Schedule{{Name: "s"}, {Name: "t"}}}
	lines := []string{"zone z +00:00", "person a z", "person b z", "person c z"}
	var all []api.Edit
	var texts []string
	for _, x := range []struct {
		x    api.Edit
		text string
	}{
		{api.Edit{Kind: api.EditLeave, A: 0, From: 5, To: 6}, "leave a 1970-01-01T00:00:05Z 1970-01-01T00:00:06Z"},
		{api.Edit{Kind: api.EditLeave, A: 2, From: 0, To: end - 1}, "leave c 1970-01-01T00:00:00Z 2240-12-31T23:59:59Z"},
		{api.Edit{Kind: api.EditOverride, A: -1, From: day, To: 2 * day}, "override nobody 1970-01-02T00:00:00Z 1970-01-03T00:00:00Z"},
		{api.Edit{Kind: api.EditOverride, A: 0, From: day - 1, To: day + 1}, "override a 1970-01-01T23:59:59Z 1970-01-02T00:00:01Z"},
		{api.Edit{Kind: api.EditOverride, A: 1, From: end - 2, To: end - 1}, "override b 2240-12-31T23:59:58Z 2240-12-31T23:59:59Z"},
		{api.Edit{Kind: api.EditSwap, A: 0, B: 1, From: 1774746000, To: 1792888200}, "swap a b 2026-03-29T01:00:00Z 2026-10-25T00:30:00Z"},
		{api.Edit{Kind: api.EditSwap, A: 1, B: 0, From: 5, To: 6}, "swap b a 1970-01-01T00:00:05Z 1970-01-01T00:00:06Z"},
		{api.Edit{Kind: api.EditSwap, A: 2, B: 1, From: 5, To: 3605}, "swap c b 1970-01-01T00:00:05Z 1970-01-01T01:00:05Z"},
		{api.Edit{Kind: api.EditLeave, A: 0, From: 5, To: 6}, "leave a 1970-01-01T00:00:05Z 1970-01-01T00:00:06Z"},
	} {
		c.Schedules[0].Edits, c.Schedules[1].Edits = []api.Edit{x.x}, nil
		expectLines(t, x.text, c, slices.Concat(lines, []string{"schedule s", x.text, "schedule t"}))
		all, texts = append(all, x.x), append(texts, x.text)
	}
	c.Schedules[0].Edits, c.Schedules[1].Edits = all, all[3:5]
	expectLines(t, "all edits", c, slices.Concat(lines, []string{"schedule s"}, texts, []string{"schedule t"}, texts[3:5]))
	c.Schedules[0].Edits = slices.Repeat(all, 6)[:48]
	expectLines(t, "48 edits", c, slices.Concat(lines, []string{"schedule s"}, slices.Repeat(texts, 6)[:48], []string{"schedule t"}, texts[3:5]))
	c.Schedules[0].Edits = slices.Repeat(all, 6)[:49]
	expectError(t, "49 edits", c, api.ErrLimit)
}

// fault is a change that makes full wrong.
type fault struct {
	about  string
	change func(c *api.Config)
	want   api.Errno
}

// faults returns faults with each error of resolve.Check.
func faults() []fault {
	all := []fault{
		{"too many zones", func(c *api.Config) { c.Zones = make([]api.Zone, 17) }, api.ErrLimit}, {"too many people", func(c *api.Config) { c.People = make([]api.Person, 33) }, api.ErrLimit}, {"too many calendars", func(c *api.Config) { c.Calendars = make([]api.Calendar, 9) }, api.ErrLimit}, {"too many schedules", func(c *api.Config) { c.Schedules = make([]api.Schedule, 13) }, api.ErrLimit},
		{"the name of a zone", func(c *api.Config) { c.Zones[2].Name = "West" }, api.ErrText}, {"the equal name of a zone", func(c *api.Config) { c.Zones[2].Name = "utc" }, api.ErrTwice}, {"an offset", func(c *api.Config) { c.Zones[0].Offset = 64860 }, api.ErrInvalid}, {"seconds of an offset", func(c *api.Config) { c.Zones[0].Offset = 59 }, api.ErrInvalid}, {"seconds of a rule", func(c *api.Config) { c.Zones[1].Rules[1].Offset = 3601 }, api.ErrInvalid},
		{"no month", func(c *api.Config) { c.Zones[1].Rules[0].Month = 0 }, api.ErrInvalid}, {"a month", func(c *api.Config) { c.Zones[1].Rules[0].Month = 13 }, api.ErrInvalid}, {"no ordinal", func(c *api.Config) { c.Zones[1].Rules[0].Week = 0 }, api.ErrInvalid}, {"an ordinal", func(c *api.Config) { c.Zones[1].Rules[0].Week = 6 }, api.ErrInvalid}, {"no weekday", func(c *api.Config) { c.Zones[1].Rules[0].Weekday = -1 }, api.ErrInvalid}, {"a weekday", func(c *api.Config) { c.Zones[1].Rules[0].Weekday = 7 }, api.ErrInvalid}, {"years", func(c *api.Config) { c.Zones[1].Rules[0].To = 2241 }, api.ErrInvalid}, {"a time", func(c *api.Config) { c.Zones[1].Rules[0].Second = day }, api.ErrInvalid},
		{"the name of a person", func(c *api.Config) { c.People[0].Name = longest + "x" }, api.ErrText}, {"nobody", func(c *api.Config) { c.People[0].Name = "nobody" }, api.ErrText}, {"the equal name of a person", func(c *api.Config) { c.People[2].Name = "bob" }, api.ErrTwice}, {"the zone of a person", func(c *api.Config) { c.People[1].Zone = 3 }, api.ErrName}, {"no zone of a person", func(c *api.Config) { c.People[1].Zone = -1 }, api.ErrName}, {"quiet hours", func(c *api.Config) { c.People[1].Quiet[1].To = wholeWk + 1 }, api.ErrInvalid}, {"empty quiet hours", func(c *api.Config) { c.People[1].Quiet[0] = api.Window{} }, api.ErrInvalid},
		{"the week of a person", func(c *api.Config) { c.People[1].MaxWeek = 3601 }, api.ErrRange}, {"a negative week", func(c *api.Config) { c.People[1].MaxWeek = -hour }, api.ErrRange}, {"the rest of a person", func(c *api.Config) { c.People[1].MinRest = wholeWk + hour }, api.ErrRange},
		{"the name of a calendar", func(c *api.Config) { c.Calendars[0].Name = "" }, api.ErrText}, {"the equal name of a calendar", func(c *api.Config) { c.Calendars[1].Name = "feasts" }, api.ErrTwice}, {"the zone of a calendar", func(c *api.Config) { c.Calendars[2].Zone = math.MaxInt }, api.ErrName}, {"a day", func(c *api.Config) { c.Calendars[2].Days[0] = -1 }, api.ErrRange}, {"the order of days", func(c *api.Config) { c.Calendars[0].Days[1] = 1 }, api.ErrOrder}, {"too many days", func(c *api.Config) { c.Calendars[1].Days = ascending(0, 65) }, api.ErrLimit},
		{"the name of a schedule", func(c *api.Config) { c.Schedules[1].Name = "a b" }, api.ErrText}, {"the equal name of a schedule", func(c *api.Config) { c.Schedules[2].Name = "web" }, api.ErrTwice}, {"too many layers", func(c *api.Config) { c.Schedules[1].Layers = make([]api.Layer, 7) }, api.ErrLimit}, {"too many edits", func(c *api.Config) { c.Schedules[2].Edits = make([]api.Edit, 49) }, api.ErrLimit},
	}
	layer := func(about string, want api.Errno, change func(l *api.Layer)) {
		all = append(all, fault{about, func(c *api.Config) { change(&c.Schedules[0].Layers[2]) }, want})
	}
	layer("the name of a layer", api.ErrText, func(l *api.Layer) { l.Name = "7" })
	layer("the equal name of a layer", api.ErrTwice, func(l *api.Layer) { l.Name = "base" })
	layer("the zone of a layer", api.ErrName, func(l *api.Layer) { l.Zone = 3 })
	layer("the day of a layer", api.ErrRange, func(l *api.Layer) { l.Start.Day = 0 })
	layer("the second of a layer", api.ErrRange, func(l *api.Layer) { l.Start.Second = day })
	layer("the unit of a layer", api.ErrRange, func(l *api.Layer) { l.Unit = 3 })
	layer("the unit -1 of a layer", api.ErrRange, func(l *api.Layer) { l.Unit = -1 })
	layer("the number of units", api.ErrRange, func(l *api.Layer) { l.Every = 401 })
	layer("no units", api.ErrRange, func(l *api.Layer) { l.Every = 0 })
	layer("no members", api.ErrEmpty, func(l *api.Layer) { l.Members = nil })
	layer("empty members", api.ErrEmpty, func(l *api.Layer) { l.Members = []int{} })
	layer("too many members", api.ErrLimit, func(l *api.Layer) { l.Members = make([]int, 13) })
	layer("a member", api.ErrName, func(l *api.Layer) { l.Members = []int{0, 3} })
	layer("the member nobody", api.ErrName, func(l *api.Layer) { l.Members = []int{-1} })
	layer("windows", api.ErrInvalid, func(l *api.Layer) { l.Windows = []api.Window{{From: 5, To: 5}} })
	layer("negative windows", api.ErrInvalid, func(l *api.Layer) { l.Windows = []api.Window{{From: -1, To: 5}} })
	layer("windows that overlap", api.ErrInvalid, func(l *api.Layer) { l.Windows = []api.Window{{From: 1, To: 5}, {From: 4, To: 6}} })
	layer("a mode", api.ErrRange, func(l *api.Layer) { l.Mode = 3 })
	layer("the mode -1", api.ErrRange, func(l *api.Layer) { l.Mode = -1 })
	layer("a calendar", api.ErrName, func(l *api.Layer) { l.Calendar = 3 })
	layer("the calendar -1", api.ErrName, func(l *api.Layer) { l.Calendar = -1 })
	layer("a needless calendar", api.ErrRange, func(l *api.Layer) { l.Mode = api.ModeNone })
	edit := func(about string, want api.Errno, x api.Edit) {
		all = append(all, fault{about, func(c *api.Config) { c.Schedules[0].Edits[2] = x }, want})
	}
	edit("a kind", api.ErrRange, api.Edit{Kind: 3, To: 1})
	edit("the kind -1", api.ErrRange, api.Edit{Kind: -1, To: 1})
	edit("the leave of nobody", api.ErrName, api.Edit{A: -1, To: 1})
	edit("the override of a person", api.ErrName, api.Edit{Kind: api.EditOverride, A: 3, To: 1})
	edit("the override of -2", api.ErrName, api.Edit{Kind: api.EditOverride, A: -2, To: 1})
	edit("the swap of nobody", api.ErrName, api.Edit{Kind: api.EditSwap, A: -1, B: 1, To: 1})
	edit("the swap with nobody", api.ErrName, api.Edit{Kind: api.EditSwap, A: 1, B: -1, To: 1})
	edit("a needless person", api.ErrRange, api.Edit{Kind: api.EditOverride, B: 1, To: 1})
	edit("a swap of one person", api.ErrTwice, api.Edit{Kind: api.EditSwap, A: 1, B: 1, To: 1})
	edit("a negative beginning", api.ErrRange, api.Edit{From: -1, To: 1})
	edit("an end after the last date", api.ErrRange, api.Edit{To: end})
	edit("the greatest numbers", api.ErrRange, api.Edit{From: math.MaxInt - 1, To: math.MaxInt})
	edit("the least numbers", api.ErrRange, api.Edit{From: math.MinInt, To: math.MinInt + 1})
	edit("the order of an edit", api.ErrOrder, api.Edit{From: 5, To: 5})
	return all
}

func TestErrors(t *testing.T) {
	for _, x := range faults() {
		c := full()
		x.change(&c)
		if e := resolve.Check(c); e != x.want {
			t.Errorf("%s: Check = %d, want %d", x.about, e, x.want)
		}
		expectError(t, x.about, c, x.want)
	}
}

// Of two faults, the error that resolve.Check returns is returned. The first four faults leave nothing for others to change.
func TestTwoErrors(t *testing.T) {
	all := faults()
	for _, x := range all {
		for _, y := range all[4:] {
			c := full()
			y.change(&c)
			x.change(&c)
			expectError(t, x.about+", "+y.about, c, resolve.Check(c))
		}
	}
}

// P9.2

// sized returns a configuration without errors whose lines have n bytes, which are about as many as a text may have.
func sized(t *testing.T, n int) api.Config {
	t.Helper()
	names := []string{longest, longest[1:] + "x"}
	c := api.Config{Zones: []api.Zone{{Name: "z"}}, People: []api.Person{{Name: names[0]}, {Name: names[1]}}}
	for i := range 12 {
		c.Schedules = append(c.Schedules, api.Schedule{Name: string(rune('a' + i))})
	}
	length := func() int { return len(strings.Join(modelLines(c), "\n")) + 1 }
	layer := api.Layer{Start: api.Local{Day: 1}, Every: 1, Members: slices.Repeat([]int{0, 1}, 6)}
	for i := range 72 {
		s := &c.Schedules[i%12]
		s.Layers = append(s.Layers, layer)
		s.Layers[len(s.Layers)-1].Name = string(rune('a' + i/12))
	}
	for i := range 576 {
		if n-length() < 200 {
			break
		}
		s := &c.Schedules[i%12]
		s.Edits = append(s.Edits, api.Edit{Kind: api.EditSwap, A: i % 2, B: 1 - i%2, From: i, To: i + 1})
	}
	for i := range 12 {
		more := min(n-length(), 23)
		c.Schedules[i].Name += strings.Repeat("x", more)
	}
	if length() != n || resolve.Check(c) != api.OK {
		t.Fatalf("%d bytes, not %d, %d", length(), n, resolve.Check(c))
	}
	return c
}

func TestLongTexts(t *testing.T) {
	for n := 65530; n <= 65542; n++ {
		c := sized(t, n)
		expectLines(t, fmt.Sprint(n, " bytes"), c, modelLines(c))
		text, e := print.Text(c)
		if n <= 65536 && (len(text) != n || e != api.OK) || n > 65536 && (text != "" || e != api.ErrLimit) {
			t.Errorf("%d bytes: Text has %d bytes, %d", n, len(text), e)
		}
		if l, e := print.Statements(c); len(l) != len(modelLines(c)) || e != api.OK {
			t.Errorf("%d bytes: %d statements, %d", n, len(l), e)
		}
	}
	c := sized(t, 65537)
	c.Schedules[11].Edits[0].To = 0
	expectError(t, "a long text of a wrong configuration", c, api.ErrOrder)
	c.Schedules[11].Layers = slices.Concat(c.Schedules[11].Layers, c.Schedules[11].Layers)
	expectError(t, "too many layers", c, api.ErrLimit)
}

func TestTextIsThatOfStatements(t *testing.T) {
	l, _ := print.Statements(full())
	want, e := syntax.Text(l)
	if text, f := print.Text(full()); text != want || text != fullText || e != api.OK || f != api.OK {
		t.Errorf("Text = %s, %d, want %s, %d", text, f, want, e)
	}
}

// The results of calls, and the statements of one result, have no memory in common.
func TestMemory(t *testing.T) {
	c := full()
	want, _ := print.Statements(c)
	want = slices.Clone(want)
	for i := range want {
		want[i].Tokens = slices.Clone(want[i].Tokens)
	}
	for i := range want {
		l, _ := print.Statements(c)
		tokens := l[i].Tokens[:cap(l[i].Tokens)]
		for k := range tokens {
			tokens[k] = api.Token{Kind: -1, Text: "changed", Num: -1}
		}
		l[i] = want[i]
		if !sameStatements(l, want) {
			t.Errorf("statement %d shares memory with another one", i)
		}
	}
	if l, _ := print.Statements(c); !sameStatements(l, want) || !modelSame(c, full()) {
		t.Error("a result shares memory with another one, or with the argument")
	}
}
