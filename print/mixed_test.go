package print_test

import (
	"fmt"
	"slices"
	"strings"
	"testing"

	"pagewatch/api"
	"pagewatch/print"
	"pagewatch/resolve"
	"pagewatch/zone"
)

// size returns a number of elements, which is most often small, and at times the limit.
func size(next func(int) int, small, limit int) int {
	if next(12) == 0 {
		return limit
	}
	return next(small + 1)
}

// mixedNames returns n different names, some of which are keywords, too.
func mixedNames(next func(int) int, n int) []string {
	l := strings.Fields("a b c d e f g h i j k l m n o p q zone rule person quiet calendar days schedule layer member on not only leave override swap week rest consent mon jan last hours x-1 x_1 " + longest)
	for i := range n {
		k := i + next(len(l)-i)
		l[i], l[k] = l[k], l[i]
	}
	return l[:n]
}

// mixedWindows returns right windows, many of which begin or end at midnight.
func mixedWindows(next func(int) int) []api.Window {
	n := size(next, 3, 14)
	var borders []int
	for range 2 * n {
		border := next(wholeWk + 1)
		switch next(4) {
		case 0:
			border = border / day * day
		case 1:
			border = border / 60 * 60
		}
		borders = append(borders, border)
	}
	slices.Sort(borders)
	var l []api.Window
	for i := range n {
		if borders[2*i] < borders[2*i+1] {
			l = append(l, api.Window{From: borders[2*i], To: borders[2*i+1]})
		}
	}
	return l
}

// mixedZone returns a zone without errors.
func mixedZone(next func(int) int, name string) api.Zone {
	z := api.Zone{Name: name, Offset: 60 * (next(2161) - 1080)}
	for range size(next, 2, 4) {
		from := 1970 + next(271)
		z.Rules = append(z.Rules, api.YearRule{From: from, To: from + next(min(20, 2241-from)), Month: 1 + next(12), Week: 1 + next(5), Weekday: next(7), Second: next(day), Offset: 60 * (next(2161) - 1080)})
	}
	if zone.Check(z) != api.OK {
		z.Rules = nil
	}
	return z
}

// mixedLayer returns a layer without errors.
func mixedLayer(next func(int) int, c api.Config, name string) api.Layer {
	l := api.Layer{Name: name, Zone: next(len(c.Zones)), Start: api.Local{Day: 1 + next(lastDay), Second: next(day)}, Unit: next(3), Every: 1 + next(400), Windows: mixedWindows(next)}
	for range 1 + size(next, 3, 11) {
		l.Members = append(l.Members, next(len(c.People)))
	}
	if len(c.Calendars) > 0 && next(2) == 0 {
		l.Mode, l.Calendar = 1+next(2), next(len(c.Calendars))
	}
	return l
}

// mixedEdit returns an edit without errors.
func mixedEdit(next func(int) int, c api.Config) api.Edit {
	n, from := len(c.People), next(end-1)
	x := api.Edit{Kind: next(3), A: next(n), From: from, To: from + 1 + next(end-1-from)}
	switch {
	case x.Kind == api.EditOverride && next(3) == 0:
		x.A = -1
	case x.Kind == api.EditSwap && n == 1:
		x.Kind = api.EditLeave
	case x.Kind == api.EditSwap:
		x.B = (x.A + 1 + next(n-1)) % n
	}
	return x
}

// mixedConfig returns a configuration without errors.
func mixedConfig(next func(int) int) api.Config {
	var c api.Config
	for _, name := range mixedNames(next, 1+size(next, 2, 15)) {
		c.Zones = append(c.Zones, mixedZone(next, name))
	}
	for _, name := range mixedNames(next, size(next, 4, 32)) {
		c.People = append(c.People, api.Person{Name: name, Zone: next(len(c.Zones)), Quiet: mixedWindows(next), MaxWeek: hour * next(2) * next(169), MinRest: hour * next(2) * next(169), Consent: next(2) == 0})
	}
	for _, name := range mixedNames(next, size(next, 3, 8)) {
		var days []int
		for range size(next, 40, 64) {
			days = append(days, next(lastDay+1))
		}
		slices.Sort(days)
		c.Calendars = append(c.Calendars, api.Calendar{Name: name, Zone: next(len(c.Zones)), Days: slices.Compact(days)})
	}
	for _, name := range mixedNames(next, size(next, 3, 12)) {
		s := api.Schedule{Name: name}
		if len(c.People) > 0 {
			for _, name := range mixedNames(next, size(next, 3, 6)) {
				s.Layers = append(s.Layers, mixedLayer(next, c, name))
			}
			for range size(next, 3, 48) {
				s.Edits = append(s.Edits, mixedEdit(next, c))
			}
		}
		c.Schedules = append(c.Schedules, s)
	}
	return c
}

func TestMixedConfigs(t *testing.T) {
	next := mixedNumbers(91)
	for i := range 1500 {
		c := mixedConfig(next)
		expectLines(t, fmt.Sprint("configuration ", i), c, modelLines(c))
		if t.Failed() {
			t.FailNow()
		}
	}
}

// Mixed configurations of which a part is changed: either Statements returns the error of resolve.Check, or what it tells is the changed one.
func TestChangedConfigs(t *testing.T) {
	next := mixedNumbers(92)
	var seen [11]int
	for range 3000 {
		c := mixedConfig(next)
		before := clone(c)
		parts := partsOf(&c)
		all := changes(parts[next(len(parts))].v)
		all[next(len(all))]()
		expectSame(t, "a changed configuration", c, before, modelSame(c, before))
		e := resolve.Check(c)
		seen[e]++
		if e != api.OK {
			expectError(t, "a changed configuration", c, e)
		} else {
			expectLines(t, "a changed configuration", c, modelLines(c))
		}
		if t.Failed() {
			t.FailNow()
		}
	}
	for _, e := range []api.Errno{api.OK, api.ErrText, api.ErrName, api.ErrTwice, api.ErrRange, api.ErrInvalid, api.ErrOrder} {
		if seen[e] < 5 {
			t.Errorf("too few configurations with the error %d: %v", e, seen)
		}
	}
}

// block is lines, ahead of which as many zones, people and calendars have to stand.
type block struct {
	lines []string
	needs [3]int
}

// mix returns the lines of several lists, each of them in its order.
func mix(next func(int) int, lists ...[]string) []string {
	var all []string
	for {
		lists = slices.DeleteFunc(slices.Clone(lists), func(l []string) bool { return len(l) == 0 })
		if len(lists) == 0 {
			return all
		}
		i := next(len(lists))
		all, lists[i] = append(all, lists[i][0]), lists[i][1:]
	}
}

// split returns a line as it is, or as several ones with the same keyword.
func split(next func(int) int, line string) []string {
	words := strings.Fields(line)
	var l []string
	for rest := words[1:]; len(rest) > 0; {
		n := 1 + next(len(rest))
		l, rest = append(l, words[0]+" "+strings.Join(rest[:n], " ")), rest[n:]
	}
	return l
}

// between returns the lines from one with a keyword on, ahead of the next one with it, for each of these.
func between(lines []string, keyword string) [][]string {
	var l [][]string
	for _, s := range lines {
		if strings.HasPrefix(s, keyword+" ") {
			l = append(l, nil)
		}
		l[len(l)-1] = append(l[len(l)-1], s)
	}
	return l
}

// chop returns the lists of blocks of the zones, people, calendars and schedules of a configuration.
func chop(next func(int) int, c api.Config) [4][]block {
	var all [4][]block
	ahead := api.Config{Zones: c.Zones}
	for _, lines := range between(modelLines(ahead), "zone") {
		all[0] = append(all[0], block{lines: lines})
	}
	n := len(modelLines(ahead))
	ahead.People = c.People
	for i, lines := range between(modelLines(ahead)[n:], "person") {
		all[1] = append(all[1], block{lines, [3]int{c.People[i].Zone + 1}})
	}
	n = len(modelLines(ahead))
	ahead.Calendars = c.Calendars
	for i, lines := range between(modelLines(ahead)[n:], "calendar") {
		b := block{lines[:1], [3]int{c.Calendars[i].Zone + 1}}
		for _, s := range lines[1:] {
			b.lines = append(slices.Clone(b.lines), split(next, s)...)
		}
		all[2] = append(all[2], b)
	}
	for _, s := range c.Schedules {
		all[3] = append(all[3], chopSchedule(next, c, s))
	}
	return all
}

// chopSchedule returns the block of a schedule, whose layers and edits are mixed, and the parts of its layers.
func chopSchedule(next func(int) int, c api.Config, s api.Schedule) block {
	var layers, edits []string
	for _, x := range s.Layers {
		l := modelLayer(c, x)
		windows := l[2 : 2+len(x.Windows)]
		layers = append(layers, l[0])
		layers = append(layers, mix(next, split(next, l[1]), windows, l[2+len(x.Windows):])...)
	}
	for _, x := range s.Edits {
		edits = append(edits, kinds[x.Kind]+" "+peopleText(c, x)+" "+instantText(x.From)+" "+instantText(x.To))
	}
	b := block{lines: append([]string{"schedule " + s.Name}, mix(next, layers, edits)...)}
	if len(b.lines) > 1 {
		b.needs = [3]int{len(c.Zones), len(c.People), len(c.Calendars)}
	}
	return b
}

// retell returns lines of a configuration in another order, as other statements, and with surplus spaces and comments.
func retell(next func(int) int, c api.Config) []string {
	lists := chop(next, c)
	var told [4]int
	var all []string
	for told != [4]int{len(lists[0]), len(lists[1]), len(lists[2]), len(lists[3])} {
		i := next(4)
		if told[i] == len(lists[i]) {
			continue
		}
		b := lists[i][told[i]]
		if told[0] < b.needs[0] || told[1] < b.needs[1] || told[2] < b.needs[2] {
			continue
		}
		told[i]++
		all = append(all, b.lines...)
	}
	return decorate(next, all)
}

// decorate returns lines that say the same, with more spaces, comments and lines, and with longer words.
func decorate(next func(int) int, lines []string) []string {
	var all []string
	for _, s := range lines {
		words := strings.Fields(s)
		for i, word := range words {
			if len(word) == len("00:00") && word[2] == ':' && next(3) == 0 {
				words[i] = word + ":00"
			}
			if word == "+00:00" && next(2) == 0 {
				words[i] = "-00:00"
			}
		}
		if words[0] == "person" && len(words) == 3 && next(2) == 0 {
			words = append(words, "week", "0", "rest", "0")
		}
		s = strings.Repeat(" ", next(3)) + strings.Join(words, strings.Repeat(" ", 1+next(2))) + strings.Repeat(" ", next(2))
		if next(4) == 0 {
			s += "# zone # x"
		}
		if next(8) == 0 {
			all = append(all, []string{"", "  ", "#", " # schedule s"}[next(4)])
		}
		all = append(all, s)
	}
	return all
}

// All texts with the same configuration lead to one text, which is the shortest one of them.
func TestTextsOfOneConfig(t *testing.T) {
	next := mixedNumbers(93)
	seen := 0
	for range 1500 {
		c := mixedConfig(next)
		want := strings.Join(append(modelLines(c), ""), "\n")
		for range 3 {
			lines := retell(next, c)
			text := strings.Join(lines, "\n") + strings.Repeat("\n", next(3))
			if len(text) > 65536 || slices.ContainsFunc(lines, func(s string) bool { return len(s) > 512 }) {
				continue
			}
			seen++
			d, line, e := resolve.Load(text)
			if line != 0 || e != api.OK {
				t.Fatalf("%s: Load = line %d, %d", text, line, e)
			}
			if got, e := print.Text(d); got != want || e != api.OK {
				t.Fatalf("%s: Text = %s, %d, want %s", text, got, e, want)
			}
			if !print.Same(d, c) || len(want) > len(text)+1 {
				t.Fatalf("%s: %+v, want %+v", text, d, c)
			}
		}
	}
	if seen < 3000 {
		t.Errorf("only %d texts", seen)
	}
}
