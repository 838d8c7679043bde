package resolve_test

import (
	"fmt"
	"math"
	"slices"
	"strings"
	"testing"

	"pagewatch/api"
	"pagewatch/lexer"
	"pagewatch/resolve"
	"pagewatch/syntax"
	"pagewatch/zone"
)

// sentence is the tokens of a statement, the names that it needs, and the one that it gives.
type sentence struct {
	tokens []api.Token
	needs  []string
	gives  string
}

func number(n int) api.Token  { return api.Token{Kind: api.TokenNumber, Num: n} }
func clock(n int) api.Token   { return api.Token{Kind: api.TokenClock, Num: n} }
func date(n int) api.Token    { return api.Token{Kind: api.TokenDate, Num: n} }
func offset(n int) api.Token  { return api.Token{Kind: api.TokenOffset, Num: n} }
func instant(n int) api.Token { return api.Token{Kind: api.TokenInstant, Num: n} }
func word(s string) api.Token { return api.Token{Kind: api.TokenWord, Text: s} }
func monthOf(n int) string {
	return strings.Fields("jan feb mar apr may jun jul aug sep oct nov dec")[n-1]
}
func weekdayOf(n int) string   { return strings.Fields("mon tue wed thu fri sat sun")[n] }
func ordinalOf(n int) string   { return strings.Fields("first second third fourth last")[n-1] }
func unitOf(n int) string      { return strings.Fields("hours days weeks")[n] }
func keywordOf(n int) string   { return strings.Fields("leave override swap")[n] }
func modeOf(n int) string      { return strings.Fields("not only")[n-1] }
func between(a, b, n int) bool { return a <= n && n < b }

// say returns the tokens of words and tokens.
func say(parts ...any) []api.Token {
	var l []api.Token
	for _, x := range parts {
		switch x := x.(type) {
		case string:
			l = append(l, word(x))
		case api.Token:
			l = append(l, x)
		case []api.Token:
			l = append(l, x...)
		}
	}
	return l
}

// pick returns n different elements of a list.
func pick(next func(int) int, l []string, n int) []string {
	l = slices.Clone(l)
	for i := range n {
		k := i + next(len(l)-i)
		l[i], l[k] = l[k], l[i]
	}
	return l[:n]
}

// mixedNames returns n names, some of which are keywords, too.
func mixedNames(next func(int) int, n int) []string {
	pool := strings.Fields("a b c d e f g h i j k l m n o p q zone rule person quiet calendar days schedule layer member on not only leave override swap week rest consent mon jan last hours x-1 x_1 " + longest)
	return pick(next, pool, n)
}

// size returns a number of elements, which is most often small, and at times the limit.
func size(next func(int) int, small, limit int) int {
	if next(12) == 0 {
		return limit
	}
	return next(small + 1)
}

// mixedWindows returns right windows.
func mixedWindows(next func(int) int) []api.Window {
	n := size(next, 3, 14)
	var borders []int
	for range 2 * n {
		border := next(wholeWk + 1)
		if next(3) == 0 {
			border = border / day * day
		}
		borders = append(borders, border)
	}
	slices.Sort(borders)
	var l []api.Window
	for i := range n {
		if borders[2*i] < borders[2*i+1] {
			l = append(l, api.Window{From: borders[2*i], To: borders[2*i+1]})
		}
	}
	return l
}

// mixedZone returns a zone without errors.
func mixedZone(next func(int) int, name string) api.Zone {
	z := api.Zone{Name: name, Offset: 60 * (next(2161) - 1080)}
	for range size(next, 2, 4) {
		from := 1970 + next(271)
		z.Rules = append(z.Rules, api.YearRule{From: from, To: from + next(min(20, 2241-from)), Month: 1 + next(12), Week: 1 + next(5), Weekday: next(7), Second: next(day), Offset: 60 * (next(2161) - 1080)})
	}
	if zone.Check(z) != api.OK {
		z.Rules = nil
	}
	return z
}

// mixedLayer returns a layer without errors.
func mixedLayer(next func(int) int, c api.Config, name string) api.Layer {
	l := api.Layer{Name: name, Zone: next(len(c.Zones)), Start: api.Local{Day: 1 + next(lastDay), Second: next(day)}, Unit: next(3), Every: 1 + next(400), Windows: mixedWindows(next)}
	for range 1 + size(next, 3, 11) {
		l.Members = append(l.Members, next(len(c.People)))
	}
	if len(c.Calendars) > 0 && next(2) == 0 {
		l.Mode, l.Calendar = 1+next(2), next(len(c.Calendars))
	}
	return l
}

// mixedEdit returns an edit without errors.
func mixedEdit(next func(int) int, c api.Config) api.Edit {
	n, from := len(c.People), next(end-1)
	x := api.Edit{Kind: next(3), A: next(n), From: from, To: from + 1 + next(end-1-from)}
	switch {
	case x.Kind == api.EditOverride && next(3) == 0:
		x.A = -1
	case x.Kind == api.EditSwap && n == 1:
		x.Kind = api.EditLeave
	case x.Kind == api.EditSwap:
		x.B = (x.A + 1 + next(n-1)) % n
	}
	return x
}

// mixedConfig returns a configuration without errors.
func mixedConfig(next func(int) int) api.Config {
	var c api.Config
	for _, name := range mixedNames(next, 1+size(next, 2, 15)) {
		c.Zones = append(c.Zones, mixedZone(next, name))
	}
	for _, name := range mixedNames(next, size(next, 4, 32)) {
		c.People = append(c.People, api.Person{Name: name, Zone: next(len(c.Zones)), Quiet: mixedWindows(next), MaxWeek: hour * next(2) * next(169), MinRest: hour * next(2) * next(169), Consent: next(2) == 0})
	}
	for _, name := range mixedNames(next, size(next, 3, 8)) {
		var days []int
		for range size(next, 4, 64) {
			days = append(days, next(lastDay+1))
		}
		slices.Sort(days)
		c.Calendars = append(c.Calendars, api.Calendar{Name: name, Zone: next(len(c.Zones)), Days: slices.Compact(days)})
	}
	for _, name := range mixedNames(next, size(next, 3, 12)) {
		s := api.Schedule{Name: name}
		if len(c.People) > 0 {
			for _, name := range mixedNames(next, size(next, 3, 6)) {
				s.Layers = append(s.Layers, mixedLayer(next, c, name))
			}
			for range size(next, 3, 48) {
				s.Edits = append(s.Edits, mixedEdit(next, c))
			}
		}
		c.Schedules = append(c.Schedules, s)
	}
	return c
}

// moment returns the weekday and the time of a second of the week: midnight is 00:00 or 24:00. Other numbers are times of a Monday.
func moment(next func(int) int, n int) []api.Token {
	weekday := 0
	if between(0, wholeWk+1, n) {
		weekday = min(n/day, 6)
		if n%day == 0 && between(1, 7, weekday) && n < wholeWk {
			weekday -= next(2)
		}
	}
	return say(weekdayOf(weekday), clock(n-weekday*day))
}

// tellWindows returns a sentence for each window.
func tellWindows(next func(int) int, keyword string, l []api.Window) []sentence {
	var all []sentence
	for _, w := range l {
		all = append(all, sentence{tokens: say(keyword, moment(next, w.From), moment(next, w.To))})
	}
	return all
}

// tellParts returns sentences that begin with a keyword, with all of a list, one or more in each.
func tellParts(next func(int) int, keyword string, l []api.Token, names []string) []sentence {
	var all []sentence
	for len(l) > 0 {
		n := 1 + next(min(len(l), 32))
		x := sentence{tokens: say(keyword, l[:n])}
		if len(names) > 0 {
			x.needs, names = names[:n], names[n:]
		}
		all, l = append(all, x), l[n:]
	}
	return all
}

// mix returns the sentences of several lists, each of them in its order.
func mix(next func(int) int, lists ...[]sentence) []sentence {
	var all []sentence
	for {
		lists = slices.DeleteFunc(slices.Clone(lists), func(l []sentence) bool { return len(l) == 0 })
		if len(lists) == 0 {
			return all
		}
		i := next(len(lists))
		all, lists[i] = append(all, lists[i][0]), lists[i][1:]
	}
}

// tellZones returns the sentences of all zones.
func tellZones(c api.Config) []sentence {
	var all []sentence
	for _, z := range c.Zones {
		all = append(all, sentence{tokens: say("zone", z.Name, offset(z.Offset)), gives: "zone " + z.Name})
		for _, r := range z.Rules {
			all = append(all, sentence{tokens: say("rule", number(r.From), number(r.To), monthOf(r.Month), ordinalOf(r.Week), weekdayOf(r.Weekday), clock(r.Second), offset(r.Offset))})
		}
	}
	return all
}

// tellPeople returns the sentences of all people.
func tellPeople(next func(int) int, c api.Config) []sentence {
	var all []sentence
	for _, p := range c.People {
		tokens := say("person", p.Name, c.Zones[p.Zone].Name)
		if p.MaxWeek != 0 || next(4) == 0 {
			tokens = say(tokens, "week", number(p.MaxWeek/hour))
		}
		if p.MinRest != 0 || next(4) == 0 {
			tokens = say(tokens, "rest", number(p.MinRest/hour))
		}
		if p.Consent {
			tokens = say(tokens, "consent")
		}
		all = append(all, sentence{tokens, []string{"zone " + c.Zones[p.Zone].Name}, "person " + p.Name})
		all = append(all, tellWindows(next, "quiet", p.Quiet)...)
	}
	return all
}

// tellCalendars returns the sentences of all calendars.
func tellCalendars(next func(int) int, c api.Config) []sentence {
	var all []sentence
	for _, x := range c.Calendars {
		all = append(all, sentence{say("calendar", x.Name, c.Zones[x.Zone].Name), []string{"zone " + c.Zones[x.Zone].Name}, "calendar " + x.Name})
		var days []api.Token
		for _, n := range x.Days {
			days = append(days, date(n))
		}
		all = append(all, tellParts(next, "days", days, nil)...)
	}
	return all
}

// tellLayer returns the sentences of a layer.
func tellLayer(next func(int) int, c api.Config, l api.Layer) []sentence {
	z := c.Zones[l.Zone].Name
	first := sentence{tokens: say("layer", l.Name, z, date(l.Start.Day), clock(l.Start.Second), number(l.Every), unitOf(l.Unit)), needs: []string{"zone " + z}}
	var members []api.Token
	var needs []string
	for _, n := range l.Members {
		members, needs = append(members, word(c.People[n].Name)), append(needs, "person "+c.People[n].Name)
	}
	var mode []sentence
	if l.Mode != api.ModeNone {
		name := c.Calendars[l.Calendar].Name
		mode = []sentence{{tokens: say(modeOf(l.Mode), name), needs: []string{"calendar " + name}}}
	}
	return append([]sentence{first}, mix(next, tellParts(next, "member", members, needs), tellWindows(next, "on", l.Windows), mode)...)
}

// tellSchedules returns the sentences of all schedules.
func tellSchedules(next func(int) int, c api.Config) []sentence {
	var all []sentence
	for _, s := range c.Schedules {
		var layers, edits []sentence
		for _, l := range s.Layers {
			layers = append(layers, tellLayer(next, c, l)...)
		}
		for _, x := range s.Edits {
			people := []int{x.A, x.B}[:1+x.Kind/2]
			tokens := say(keywordOf(x.Kind))
			var needs []string
			for _, n := range people {
				if n < 0 {
					tokens = say(tokens, "nobody")
				} else {
					tokens, needs = say(tokens, c.People[n].Name), append(needs, "person "+c.People[n].Name)
				}
			}
			edits = append(edits, sentence{tokens: say(tokens, instant(x.From), instant(x.To)), needs: needs})
		}
		all = append(all, sentence{tokens: say("schedule", s.Name)})
		all = append(all, mix(next, layers, edits)...)
	}
	return all
}

// tell returns statements of a configuration whose indices are right: those of different kinds in any order, but behind what they name.
func tell(next func(int) int, c api.Config) []api.Statement {
	lists := [][]sentence{tellZones(c), tellPeople(next, c), tellCalendars(next, c), tellSchedules(next, c)}
	given := map[string]bool{}
	var all []api.Statement
	for {
		lists = slices.DeleteFunc(lists, func(l []sentence) bool { return len(l) == 0 })
		if len(lists) == 0 {
			return all
		}
		i := next(len(lists))
		x := lists[i][0]
		if slices.ContainsFunc(x.needs, func(name string) bool { return !given[name] }) {
			continue
		}
		all = append(all, api.Statement{Line: 1 + len(all), Tokens: x.tokens})
		lists[i] = lists[i][1:]
		given[x.gives] = true
	}
}

// harm changes something of a configuration that statements can tell all the same.
func harm(next func(int) int, c *api.Config) {
	numbers, names, pool := toldNumbers(c), namesOf(c), bounds()
	switch k := next(16); {
	case k == 0:
		*names[next(len(names))] = []string{"", "A", "nobody", longest, longest + "x"}[next(5)]
	case k <= 2:
		*names[next(len(names))] = *names[next(len(names))]
	case k <= 5:
		*numbers[next(len(numbers))] += next(3) - 1
	case k <= 9:
		*numbers[next(len(numbers))] = pool[next(len(pool))]
	case k <= 11 && len(c.People) > 0:
		p := &c.People[next(len(c.People))]
		n := hour * []int{-1, 168, 169, math.MaxInt / hour, math.MinInt / hour}[next(5)]
		p.MaxWeek, p.MinRest = []int{p.MaxWeek, n}[k-10], []int{n, p.MinRest}[k-10]
	case k == 12:
		c.Schedules = append(c.Schedules, numbered(13-next(2)-len(c.Schedules), newSchedule)...)
	case k == 13:
		c.Zones = append(c.Zones, numbered(17-next(2)-len(c.Zones), newZone)...)
	case len(c.Schedules) > 0:
		s := &c.Schedules[next(len(c.Schedules))]
		if len(s.Layers) > 0 {
			l := &s.Layers[next(len(s.Layers))]
			l.Members = slices.Repeat(l.Members[:min(1, len(l.Members))], []int{0, 12, 13}[next(3)])
		}
		if len(s.Edits) > 0 {
			x := &s.Edits[next(len(s.Edits))]
			x.Kind, x.A, x.B = api.EditSwap, max(x.A, 0), max(x.A, 0)
		}
	}
}

// Statements that tell a mixed configuration lead to it, or to its error, in whatever order they are.
func TestMixedStatements(t *testing.T) {
	next := mixedNumbers(82)
	var seen [11]int
	loaded := 0
	for range 5000 {
		c := mixedConfig(next)
		for range next(3) {
			harm(next, &c)
		}
		want := modelCheck(c)
		seen[want]++
		l := tell(next, c)
		got, line, e := resolve.Build(l)
		if line != 0 || e != want || e == api.OK && !same(got, c) || e != api.OK && !isZero(got) {
			t.Fatalf("%+v: Build = %+v, line %d, %d, want %d", c, got, line, e, want)
		}
		s, e := syntax.Text(l)
		if e != api.OK {
			continue
		}
		loaded++
		if got, line, e := resolve.Load(s); line != 0 || e != want || e == api.OK && !same(got, c) || e != api.OK && !isZero(got) {
			t.Fatalf("%s: Load = %+v, line %d, %d, want %+v, %d", s, got, line, e, c, want)
		}
	}
	for _, e := range []api.Errno{api.OK, api.ErrText, api.ErrTwice, api.ErrLimit, api.ErrRange, api.ErrInvalid, api.ErrOrder, api.ErrEmpty} {
		if seen[e] < 50 {
			t.Errorf("too few configurations with the error %d: %v", e, seen)
		}
	}
	if loaded < 1500 {
		t.Errorf("only %d texts", loaded)
	}
}

// alter returns statements of which one or two are left out, moved, doubled or changed.
func alter(next func(int) int, l []api.Statement) []api.Statement {
	l = slices.Clone(l)
	words := strings.Fields("mon sun tue jan dec first last fifth hours days weeks months nobody a b zone week consent x-1")
	for range 1 + next(2) {
		if len(l) == 0 {
			return l
		}
		i := next(len(l))
		switch tokens := slices.Clone(l[i].Tokens); next(6) {
		case 0:
			l = slices.Delete(l, i, i+1)
		case 1:
			k := next(len(l))
			l[i], l[k] = l[k], l[i]
		case 2:
			l = slices.Insert(l, next(len(l)+1), l[i])
		case 3:
			l[i].Tokens = tokens[:next(len(tokens)+1)]
		default:
			if len(tokens) == 0 {
				continue
			}
			k := next(len(tokens))
			if tokens[k].Kind == api.TokenWord {
				tokens[k].Text = words[next(len(words))]
			} else {
				tokens[k].Kind = next(6)
			}
			l[i].Tokens = tokens
		}
	}
	for i := range l {
		l[i].Line = 1000 - 3*i
	}
	return l
}

// The first wrong one of altered statements is found.
func TestAlteredStatements(t *testing.T) {
	next := mixedNumbers(83)
	var seen [11]int
	for range 6000 {
		l := alter(next, tell(next, mixedConfig(next)))
		before := fmt.Sprint(l)
		line, want := modelBuild(l)
		c, n, e := resolve.Build(l)
		switch {
		case want != api.OK && (n != line || e != want):
			t.Fatalf("%v: Build = line %d, %d, want line %d, %d", l, n, e, line, want)
		case want == api.OK && (n != 0 || e == api.OK && modelCheck(c) != api.OK):
			t.Fatalf("%v: Build = %+v, line %d, %d, want line 0", l, c, n, e)
		case e != api.OK && !isZero(c), fmt.Sprint(l) != before:
			t.Fatalf("%v: Build = %+v, line %d, %d", l, c, n, e)
		}
		seen[want]++
	}
	for _, e := range []api.Errno{api.OK, api.ErrText, api.ErrState, api.ErrName} {
		if seen[e] < 500 {
			t.Errorf("too few statements with the error %d: %v", e, seen)
		}
	}
}

// Load is Build of Parse, also for texts of which bytes are replaced, inserted or left out.
func TestAlteredTexts(t *testing.T) {
	next := mixedNumbers(84)
	pieces := []string{"", " ", "   ", "\n", "\n\n", "#", " # x\n", "0", "1", "2", "a", "x", "-", ":", "\xff", "\t", "\r", "A", "mon", "nobody", "member ", "schedule s\n", "\nnot none\n", "\nzone z +00:30\n", "\nonly feasts\n", "\nmember ann\n"}
	var seen [11]int
	for range 10000 {
		s := text
		for range 1 + next(2) {
			i := next(len(s) + 1)
			k := min(i+next(3)*next(2), len(s))
			s = s[:i] + pieces[next(len(pieces))] + s[k:]
		}
		l, wantLine, want := syntax.Parse(s)
		var wanted api.Config
		if want == api.OK {
			wanted, wantLine, want = resolve.Build(l)
			if line, e := modelBuild(l); e != api.OK && (wantLine != line || want != e) {
				t.Fatalf("%q: Build = line %d, %d, want line %d, %d", s, wantLine, want, line, e)
			}
		}
		if c, line, e := resolve.Load(s); line != wantLine || e != want || !same(c, wanted) {
			t.Fatalf("%q: Load = %+v, line %d, %d, want %+v, line %d, %d", s, c, line, e, wanted, wantLine, want)
		}
		seen[want]++
	}
	for _, e := range []api.Errno{api.OK, api.ErrText, api.ErrName} {
		if seen[e] < 300 {
			t.Errorf("too few texts with the error %d: %v", e, seen)
		}
	}
}

// Every word of a text is replaced by others, one at a time.
func TestReplacedWords(t *testing.T) {
	others := strings.Fields("a mon nobody utc cid base none zone first dec hours week consent 0 7 09:00 24:00 1970-01-01 2240-12-31 +00:00 -18:00 1970-01-01T00:00:00Z 2240-12-31T23:59:59Z")
	lines := strings.Split(strings.TrimSuffix(text, "\n"), "\n")
	for i := range lines {
		all := statements(t, lines...)
		for k := range all[i].Tokens {
			for _, s := range others {
				all[i].Tokens[k], _ = lexer.Token(s)
				line, want := modelBuild(all)
				c, n, e := resolve.Build(all)
				if want != api.OK && (n != line || e != want) || want == api.OK && n != 0 || e == api.OK && modelCheck(c) != api.OK || e != api.OK && !isZero(c) {
					t.Errorf("line %d, word %d, %s: Build = line %d, %d, want line %d, %d", i+1, k+1, s, n, e, line, want)
				}
			}
			all[i].Tokens[k] = statements(t, lines[i])[0].Tokens[k]
		}
	}
}
