package edit_test

import (
	"fmt"
	"slices"
	"strings"
	"testing"

	"pagewatch/api"
	"pagewatch/edit"
	"pagewatch/lexer"
	"pagewatch/print"
	"pagewatch/resolve"
	"pagewatch/stack"
)

// wantActive says what P13.4 says.
func wantActive(l []api.Edit, t int) []int {
	var indices []int
	for i := range l {
		if t >= l[i].From && l[i].To > t {
			indices = append(indices, i)
		}
	}
	return indices
}

// wantFold says what P13.1 says: the last override that is active decides, and what is exchanged behind it.
func wantFold(l []api.Edit, person, t int) int {
	active := wantActive(l, t)
	first := 0
	for i, index := range active {
		if l[index].Kind == api.EditOverride {
			first, person = i+1, l[index].A
		}
	}
	// Each place is a person, and has in it who is on call if that person was.
	places := map[int]int{}
	at := func(place int) int {
		if p, ok := places[place]; ok {
			return p
		}
		return place
	}
	// The exchanges are undone from the last one on, so that a place is looked up where it was before all of them.
	for _, index := range slices.Backward(active[first:]) {
		if x := l[index]; x.Kind == api.EditSwap {
			places[x.A], places[x.B] = at(x.B), at(x.A)
		}
	}
	return at(person)
}

// wantError says what P13.3 says of the configuration and the schedule.
func wantError(c api.Config, schedule int) api.Errno {
	switch {
	case resolve.Check(c) != api.OK:
		return api.ErrInvalid
	case schedule < 0 || schedule >= len(c.Schedules):
		return api.ErrName
	}
	return api.OK
}

// wantApply says what P13.3 says of Apply.
func wantApply(c api.Config, schedule int, x api.Edit) api.Errno {
	if e := wantError(c, schedule); e != api.OK {
		return e
	}
	d := clone(c)
	s := &d.Schedules[schedule]
	s.Edits = slices.Insert(s.Edits, len(s.Edits), x)
	return resolve.Check(d)
}

// wantCancel says what P13.3 says of Cancel.
func wantCancel(c api.Config, schedule, index int) api.Errno {
	e := wantError(c, schedule)
	if e == api.OK && (index < 0 || index > len(c.Schedules[schedule].Edits)-1) {
		return api.ErrNone
	}
	return e
}

// mixedNumbers returns a function whose results are less than n and look as if by chance, but are the same in each run.
func mixedNumbers(seed uint64) func(n int) int {
	return func(n int) int {
		seed = seed*6364136223846793005 + 1442695040888963407
		return int((seed >> 24) % uint64(n))
	}
}

// mixedEdit returns a right edit for n people, whose times are often borders, or near one.
func mixedEdit(next func(n int) int, n int, borders []int) api.Edit {
	x := api.Edit{Kind: next(3), A: next(n)}
	switch x.Kind {
	case api.EditSwap:
		x.B = (x.A + 1 + next(n-1)) % n
	case api.EditOverride:
		x.A -= next(3) / 2 * (x.A + 1)
	}
	x.From = max(0, borders[next(len(borders))]+[]int{0, 0, -1, 1, -next(2 * day)}[next(5)])
	x.To = borders[next(len(borders))] + []int{0, 0, -1, 1, next(2 * day)}[next(5)]
	if x.From >= x.To {
		x.To = x.From + []int{1, 2, hour, day, week}[next(5)]
	}
	return x
}

// mixedConfig returns a right configuration of at least two people, whose schedule own has layers and edits, and borders of who is on call by its layers.
func mixedConfig(next func(n int) int) (api.Config, []int) {
	c := conf(nil)
	c.People = c.People[:2+next(7)]
	c.Schedules[other], c.Schedules[empty] = api.Schedule{Name: "other"}, api.Schedule{Name: "empty"}
	n := len(c.People)
	for i := range next(5) {
		l := layer(next(3), 1+next(3)*next(9), next(n), next(n), next(n))
		if next(2) == 0 {
			l = with(l, next(3)*day, (3+next(5))*day)
		}
		l = starting(l, next(3), monday-next(9), []int{0, hour, next(day)}[next(3)])
		l.Name = fmt.Sprint("l", i)
		c.Schedules[own].Layers = append(c.Schedules[own].Layers, l)
	}
	list, _ := stack.Segments(c, own, may-week, may+2*week)
	var borders []int
	for _, s := range list {
		borders = append(borders, s.From, s.To)
	}
	for i := range c.Schedules {
		for range next(9) * (1 + next(4)) {
			c.Schedules[i].Edits = append(c.Schedules[i].Edits, mixedEdit(next, n, borders))
		}
	}
	return c, slices.Compact(borders)
}

// instants returns borders, the ends of the edits, and the instants around them.
func instants(borders []int, edits []api.Edit) []int {
	all := slices.Clone(borders)
	for _, x := range edits {
		all = append(all, x.From, x.To)
	}
	for _, at := range slices.Clone(all) {
		all = append(all, at-1, at+1)
	}
	slices.Sort(all)
	return slices.Compact(all)
}

// P13.1, P13.4

// All lists of up to three edits of each kind, before, at and behind 5, and all of four at 5.
func TestAllShortLists(t *testing.T) {
	var at, all []api.Edit
	for _, x := range []api.Edit{leave(0, 5, 6), leave(1, 5, 6), override(-1, 5, 6), override(0, 5, 6), override(1, 5, 6), override(2, 5, 6), swap(0, 1, 5, 6), swap(1, 0, 5, 6), swap(0, 2, 5, 6), swap(2, 1, 5, 6), swap(2, 3, 5, 6)} {
		before, behind := x, x
		before.From, before.To = 4, 5
		behind.From, behind.To = 6, 7
		at = append(at, x)
		all = append(all, before, x, behind)
	}
	var extend func(l, alphabet []api.Edit, n int)
	extend = func(l, alphabet []api.Edit, n int) {
		for person := -1; person <= 4; person++ {
			expectFold(t, "a short list", l, person, 5, wantFold(l, person, 5))
		}
		if got, want := edit.Active(api.Schedule{Edits: l}, 5), wantActive(l, 5); !slices.Equal(got, want) {
			t.Errorf("Active of %v: %v, want %v", l, got, want)
		}
		for i := 0; i < len(alphabet) && n > 0 && !t.Failed(); i++ {
			extend(append(l, alphabet[i]), alphabet, n-1)
		}
	}
	extend(nil, all, 3)
	extend(nil, at, 4)
}

func TestMixedLists(t *testing.T) {
	for seed := range 3000 {
		next := mixedNumbers(uint64(seed))
		var l []api.Edit
		for range next(8) * (1 + next(8)) {
			x := api.Edit{Kind: next(4) * next(4) % 4, A: next(5) - 1, B: next(5) - 1, From: next(12), To: next(14)}
			l = append(l, x)
		}
		for at := -1; at < 15; at++ {
			expectActive(t, fmt.Sprint("seed ", seed), l, at, wantActive(l, at)...)
			for person := -1; person < 6; person++ {
				expectFold(t, fmt.Sprint("seed ", seed), l, person, at, wantFold(l, person, at))
			}
		}
		if t.Failed() {
			t.FailNow()
		}
	}
}

// P13.2

// TestMixedWho compares Who with who is on call by stack.Segments, and the edits.
func TestMixedWho(t *testing.T) {
	for seed := range 300 {
		next := mixedNumbers(uint64(seed) + 5000)
		c, borders := mixedConfig(next)
		if e := resolve.Check(c); e != api.OK {
			t.Fatalf("seed %d: the configuration is wrong: %d", seed, e)
		}
		edits := c.Schedules[own].Edits
		for _, at := range instants(borders, edits) {
			if next(4) > 0 {
				continue
			}
			list, e := stack.Segments(c, own, at, at+1)
			if e != api.OK || len(list) != 1 {
				t.Fatalf("seed %d: %v, %d", seed, list, e)
			}
			expectWho(t, fmt.Sprint("seed ", seed), c, at, wantFold(edits, list[0].Person, at))
		}
		if t.Failed() {
			t.Fatal(c)
		}
	}
}

// P13.3

// statementOf returns the text of a right edit.
func statementOf(c api.Config, x api.Edit) string {
	words := []string{[]string{"leave", "override", "swap"}[x.Kind], "nobody"}
	if x.A >= 0 {
		words[1] = c.People[x.A].Name
	}
	if x.Kind == api.EditSwap {
		words = append(words, c.People[x.B].Name)
	}
	for _, at := range []int{x.From, x.To} {
		word, _ := lexer.Text(api.Token{Kind: api.TokenInstant, Num: at})
		words = append(words, word)
	}
	return strings.Join(words, " ") + "\n"
}

// Apply adds a line to the text of a configuration, at the end of the schedule, and Cancel takes it away.
func TestTexts(t *testing.T) {
	for seed := range 300 {
		next := mixedNumbers(uint64(seed) + 10000)
		c, borders := mixedConfig(next)
		schedule := next(3)
		x := mixedEdit(next, len(c.People), borders)
		text, e := print.Text(c)
		parts := strings.SplitAfter(text, "schedule ")
		if e != api.OK || len(parts) != 4 {
			t.Fatalf("seed %d: %d, %s", seed, e, text)
		}
		part := &parts[schedule+1]
		lines, last := strings.CutSuffix(*part, "schedule ")
		*part = lines + statementOf(c, x)
		if last {
			*part += "schedule "
		}
		want, line, e := resolve.Load(strings.Join(parts, ""))
		if e != api.OK {
			t.Fatalf("seed %d: line %d, %d: %s", seed, line, e, text)
		}
		applied, e := edit.Apply(c, schedule, x)
		if e != api.OK || !print.Same(applied, want) {
			t.Errorf("seed %d: Apply(%d, %v) = %v, %d, want %v", seed, schedule, x, applied, e, want)
		}
		cancelled, e := edit.Cancel(want, schedule, len(c.Schedules[schedule].Edits))
		if back, _ := print.Text(cancelled); e != api.OK || back != text {
			t.Errorf("seed %d: Cancel(%d) = %d, %s, want %s", seed, schedule, e, back, text)
		}
	}
}

// TestMixedFaults changes a right configuration or an edit by one number or name, or two, and compares the errors and results with the definitions.
func TestMixedFaults(t *testing.T) {
	numbers := []int{least, -86400, -2, -1, 0, 1, 2, 3, 5, 7, 8, 12, 400, 401, 86399, 86400, lastDay, lastDay + 1, may, may + 1, end, end + 1, most, most + 1, greatest}
	seen := map[api.Errno]int{}
	for seed := range 6000 {
		next := mixedNumbers(uint64(seed) + 15000)
		c := conf(edited(leave(1, may, may+5), swap(0, 1, may, may+9)), layer(api.UnitDays, 1, 0, 1), always(next(3)))
		x := edited(leave(0, 5, 9), override(-1, 5, 9), swap(0, 1, 5, 9))[next(3)]
		schedule, index := next(5)-1, numbers[next(10)]
		n, name := numbers[next(len(numbers))], []string{"", "a", "utc", "own", "Big", "nobody"}[next(6)]
		s, l, old := &c.Schedules[next(3)], &c.Schedules[own].Layers[next(2)], &c.Schedules[own].Edits[next(2)]
		ofEdit := []func(){func() { x.Kind = n }, func() { x.A = n }, func() { x.B = n }, func() { x.From = n }, func() { x.To = n }}
		ofConfig := []func(){
			func() { l.Zone = n }, func() { l.Every = n }, func() { l.Members = []int{n} }, func() { l.Mode = n }, func() { l.Name = name }, func() { s.Name = name }, func() { c.Zones[next(2)].Offset = n }, func() { c.People[next(8)].Name = name },
			func() { old.Kind = n }, func() { old.A = n }, func() { old.From = n }, func() { c.Schedules = c.Schedules[:2] }, func() { s.Edits = many(47 + next(3)) }, func() { s.Edits = many(48) },
		}
		for range next(3) {
			ofEdit[next(len(ofEdit))]()
		}
		if next(3) == 0 {
			ofConfig[next(len(ofConfig))]()
		}
		about := fmt.Sprint("seed ", seed)
		apply, cancel := wantApply(c, schedule, x), wantCancel(c, schedule, index)
		seen[apply]++
		seen[cancel]++
		expectApply(t, about, c, schedule, x, apply)
		expectCancel(t, about, c, schedule, index, cancel)
		want := nobody
		if wantError(c, schedule) == api.OK {
			want = wantFold(c.Schedules[schedule].Edits, stack.Who(c, schedule, n), n)
		}
		expectWhoOf(t, about, c, schedule, n, want)
		if t.Failed() {
			t.Fatal(c, x)
		}
	}
	for _, e := range []api.Errno{api.OK, api.ErrInvalid, api.ErrName, api.ErrNone, api.ErrTwice, api.ErrRange, api.ErrOrder, api.ErrLimit} {
		if seen[e] < 20 {
			t.Errorf("the error %d occurs %d times only", e, seen[e])
		}
	}
}

// Consequences

func TestTwoEqualSwaps(t *testing.T) {
	for seed := range 300 {
		next := mixedNumbers(uint64(seed) + 25000)
		c, borders := mixedConfig(next)
		l := c.Schedules[own].Edits
		x := mixedEdit(next, len(c.People), borders)
		x.Kind, x.A, x.B = api.EditSwap, 0, 1
		y := x
		y.A, y.B = 1, 0
		where := next(len(l) + 1)
		for _, twice := range [][]api.Edit{{x, x}, {x, y}, {x, leave(1, 0, end), x}, {x, y, y, x}} {
			longer := slices.Insert(slices.Clone(l), where, twice...)
			for _, at := range instants(borders, longer) {
				for person := -1; person < len(c.People); person++ {
					expectFold(t, fmt.Sprint("seed ", seed), longer, person, at, edit.Fold(l, person, at))
				}
			}
		}
	}
}

// Apply of an edit changes who is on call in its time only, where an override wins; Cancel of it leads back.
func TestApplyAndCancel(t *testing.T) {
	for seed := range 200 {
		next := mixedNumbers(uint64(seed) + 30000)
		c, borders := mixedConfig(next)
		x := mixedEdit(next, len(c.People), borders)
		applied, e := edit.Apply(c, own, x)
		back, f := edit.Cancel(applied, own, len(c.Schedules[own].Edits))
		if e != api.OK || f != api.OK || !print.Same(back, c) {
			t.Fatalf("seed %d: Apply(%v): %d, and Cancel: %d, %v, want %v", seed, x, e, f, back, c)
		}
		all := instants(borders, c.Schedules[own].Edits)
		for _, at := range append(instants(nil, edited(x)), all[next(len(all))], all[next(len(all))], all[next(len(all))]) {
			before := edit.Who(c, own, at)
			is := x.From <= at && at < x.To
			switch {
			case !is:
				expectWho(t, fmt.Sprintf("seed %d, %v is not active", seed, x), applied, at, before)
			case x.Kind == api.EditOverride:
				expectWho(t, fmt.Sprintf("seed %d, %v is active", seed, x), applied, at, x.A)
			case x.Kind == api.EditSwap:
				expectWho(t, fmt.Sprintf("seed %d, %v is active", seed, x), applied, at, wantFold(edited(x), before, at))
			}
			for _, schedule := range []int{other, empty} {
				expectWhoOf(t, fmt.Sprintf("seed %d, %v in another schedule", seed, x), applied, schedule, at, edit.Who(c, schedule, at))
			}
		}
	}
}
