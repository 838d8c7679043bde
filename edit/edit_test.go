package edit_test

import (
	"fmt"
	"math"
	"reflect"
	"slices"
	"testing"

	"pagewatch/api"
	"pagewatch/edit"
	"pagewatch/print"
)

const (
	hour     = 3600
	day      = 86400
	week     = 604800
	most     = 1 << 33
	widest   = 64800
	lastDay  = 98980                 // 2240-12-31
	end      = lastDay*day + day - 1 // the latest end of an edit
	least    = math.MinInt
	greatest = math.MaxInt
	monday   = 11078     // 2000-05-01
	may      = 957139200 // its beginning in UTC
	nobody   = -1
)

// The zones of conf.
const (
	utc    = 0
	europe = 1
	east   = 2 // +18:00
)

// The schedules of conf: one in which 7 is always on call from 1970 on, one with layers and edits, and one without layers.
const (
	other = 0
	own   = 1
	empty = 2
)

// conf returns a configuration with eight people and three schedules, in which every list has elements.
func conf(edits []api.Edit, layers ...api.Layer) api.Config {
	c := api.Config{
		Zones: []api.Zone{{Name: "utc"},
			{Name: "europe", Offset: hour, Rules: []api.YearRule{{From: 2020, To: 2030, Month: 3, Week: 5, Weekday: 6, Second: 2 * hour, Offset: 2 * hour}, {From: 2020, To: 2030, Month: 10, Week: 5, Weekday: 6, Second: 3 * hour, Offset: hour}}},
			{Name: "east", Offset: widest, Rules: []api.YearRule{{From: 1990, To: 1990, Month: 1, Week: 1, Weekday: 0, Second: 0, Offset: widest}}},
		},
		Calendars: []api.Calendar{{Name: "a", Days: []int{monday, monday + 1, monday + 3, 20541}}, {Name: "b", Zone: europe, Days: []int{5}}},
		Schedules: []api.Schedule{
			{Name: "other", Layers: []api.Layer{starting(always(7), utc, 1, 0)}, Edits: edited(leave(5, 0, end), override(7, 3, 4))},
			{Name: "own", Edits: edits},
			{Name: "empty", Edits: edited(leave(6, 0, end))},
		},
	}
	for i := range 8 {
		c.People = append(c.People, api.Person{Name: fmt.Sprint("p", i), Zone: i % 3, Quiet: []api.Window{{From: i, To: 9 * hour}, {From: 20 * hour, To: day}}, MaxWeek: 40 * hour, MinRest: i * hour, Consent: i == 3})
	}
	for i, l := range layers {
		l.Name = fmt.Sprint("l", i)
		c.Schedules[own].Layers = append(c.Schedules[own].Layers, l)
	}
	return c
}

// layer returns a layer in the zone utc that starts on Monday, 2000-05-01, at 0:00.
func layer(unit, every int, members ...int) api.Layer {
	return api.Layer{Name: "l", Start: api.Local{Day: monday}, Unit: unit, Every: every, Members: members}
}

// always returns a layer with one member.
func always(person int) api.Layer {
	return layer(api.UnitWeeks, 1, person)
}

// with returns a layer with a window.
func with(l api.Layer, from, to int) api.Layer {
	l.Windows = append(slices.Clone(l.Windows), api.Window{From: from, To: to})
	return l
}

// starting returns a layer in another zone with another start.
func starting(l api.Layer, z, d, second int) api.Layer {
	l.Zone, l.Start = z, api.Local{Day: d, Second: second}
	return l
}

func leave(a, from, to int) api.Edit {
	return api.Edit{Kind: api.EditLeave, A: a, From: from, To: to}
}

func override(a, from, to int) api.Edit {
	return api.Edit{Kind: api.EditOverride, A: a, From: from, To: to}
}

func swap(a, b, from, to int) api.Edit {
	return api.Edit{Kind: api.EditSwap, A: a, B: b, From: from, To: to}
}

// edited returns its arguments as a list.
func edited(l ...api.Edit) []api.Edit {
	return l
}

// many returns n edits, each of which is active at the instant of its index alone.
func many(n int) []api.Edit {
	var l []api.Edit
	for i := range n {
		l = append(l, override(i%8, i, i+1))
	}
	return l
}

func expectFold(t *testing.T, about string, l []api.Edit, person, at, want int) {
	t.Helper()
	if got := edit.Fold(l, person, at); got != want {
		t.Errorf("%s: Fold(%v, %d, %d) = %d, want %d", about, l, person, at, got, want)
	}
}

// expectWho compares Who of the schedule own with the person that there must be.
func expectWho(t *testing.T, about string, c api.Config, at, want int) {
	t.Helper()
	expectWhoOf(t, about, c, own, at, want)
}

func expectWhoOf(t *testing.T, about string, c api.Config, schedule, at, want int) {
	t.Helper()
	if got := edit.Who(c, schedule, at); got != want {
		t.Errorf("%s: Who(%d, %d) = %d, want %d", about, schedule, at, got, want)
	}
}

func expectActive(t *testing.T, about string, l []api.Edit, at int, want ...int) {
	t.Helper()
	for _, s := range []api.Schedule{{Edits: l}, {Name: "s", Layers: []api.Layer{always(2), {}}, Edits: l}} {
		if got := edit.Active(s, at); !slices.Equal(got, want) {
			t.Errorf("%s: Active of %v at %d is %v, want %v", about, l, at, got, want)
		}
	}
}

// expectApply makes sure that Apply returns the configuration with another list of edits in a schedule, or an error.
func expectApply(t *testing.T, about string, c api.Config, schedule int, x api.Edit, want api.Errno) {
	t.Helper()
	got, e := edit.Apply(c, schedule, x)
	expectResult(t, fmt.Sprintf("%s: Apply(%d, %v)", about, schedule, x), got, e, want, func() api.Config {
		d := clone(c)
		d.Schedules[schedule].Edits = append(d.Schedules[schedule].Edits, x)
		return d
	})
}

// expectCancel does the same for Cancel.
func expectCancel(t *testing.T, about string, c api.Config, schedule, index int, want api.Errno) {
	t.Helper()
	got, e := edit.Cancel(c, schedule, index)
	expectResult(t, fmt.Sprintf("%s: Cancel(%d, %d)", about, schedule, index), got, e, want, func() api.Config {
		d := clone(c)
		l := d.Schedules[schedule].Edits
		d.Schedules[schedule].Edits = append(slices.Clone(l[:index]), l[index+1:]...)
		return d
	})
}

func expectResult(t *testing.T, about string, got api.Config, e, want api.Errno, result func() api.Config) {
	t.Helper()
	switch {
	case e != want:
		t.Errorf("%s: the error is %d, want %d", about, e, want)
	case want != api.OK && !print.Same(got, api.Config{}):
		t.Errorf("%s: %v with the error %d", about, got, e)
	case want == api.OK && !print.Same(got, result()):
		t.Errorf("%s: %v, want %v", about, got, result())
	}
}

// clone returns a copy of a value, without any shared memory.
func clone[T any](x T) T {
	return deepCopy(reflect.ValueOf(x)).Interface().(T)
}

func deepCopy(v reflect.Value) reflect.Value {
	out := reflect.New(v.Type()).Elem()
	switch {
	case v.Kind() == reflect.Struct:
		for i := range v.NumField() {
			out.Field(i).Set(deepCopy(v.Field(i)))
		}
	case v.Kind() == reflect.Slice && !v.IsNil():
		out.Set(reflect.MakeSlice(v.Type(), v.Len(), v.Len()))
		for i := range v.Len() {
			out.Index(i).Set(deepCopy(v.Index(i)))
		}
	default:
		out.Set(v)
	}
	return out
}

// P13.1

func TestFoldOfOneEdit(t *testing.T) {
	for i, x := range []struct {
		edit         api.Edit
		person, want int // while the edit is active
	}{
		{override(2, 10, 20), -1, 2}, {override(2, 10, 20), 0, 2}, {override(2, 10, 20), 2, 2}, {override(2, 10, 20), 31, 2}, {override(0, 10, 20), -1, 0}, {override(0, 10, 20), 2, 0},
		{override(-1, 10, 20), -1, -1}, {override(-1, 10, 20), 0, -1}, {override(-1, 10, 20), 1, -1}, {override(-1, 10, 20), 31, -1},
		{swap(2, 5, 10, 20), 2, 5}, {swap(2, 5, 10, 20), 5, 2}, {swap(2, 5, 10, 20), 0, 0}, {swap(2, 5, 10, 20), -1, -1}, {swap(2, 5, 10, 20), 3, 3}, {swap(2, 5, 10, 20), 31, 31},
		{swap(5, 2, 10, 20), 2, 5}, {swap(5, 2, 10, 20), 5, 2}, {swap(5, 2, 10, 20), 4, 4}, {swap(0, 1, 10, 20), 0, 1}, {swap(0, 1, 10, 20), 1, 0}, {swap(1, 0, 10, 20), 0, 1}, {swap(1, 0, 10, 20), 1, 0}, {swap(1, 0, 10, 20), -1, -1},
		{leave(2, 10, 20), 2, 2}, {leave(2, 10, 20), -1, -1}, {leave(2, 10, 20), 0, 0}, {leave(0, 10, 20), 0, 0}, {leave(0, 10, 20), 2, 2},
		// An index of the people is not asked for.
		{override(least, 10, 20), 2, least}, {override(greatest, 10, 20), -1, greatest}, {swap(-1, 3, 10, 20), -1, 3}, {swap(-1, 3, 10, 20), 3, -1}, {swap(least, greatest, 10, 20), greatest, least}, {swap(least, greatest, 10, 20), least, greatest}, {swap(2, 5, 10, 20), least, least},
		// Edits that are not right change what their kinds say, and nothing if they have none.
		{swap(2, 2, 10, 20), 2, 2}, {swap(2, 2, 10, 20), 0, 0}, {api.Edit{Kind: api.EditOverride, A: 2, B: 5, From: 10, To: 20}, 5, 2}, {api.Edit{Kind: api.EditLeave, A: 2, B: 5, From: 10, To: 20}, 2, 2},
		{api.Edit{Kind: 3, A: 2, B: 5, From: 10, To: 20}, 2, 2}, {api.Edit{Kind: -1, A: 2, B: 5, From: 10, To: 20}, 5, 5}, {api.Edit{Kind: least, A: 2, B: 5, From: 10, To: 20}, 2, 2}, {api.Edit{Kind: greatest, A: 2, B: 5, From: 10, To: 20}, 0, 0},
	} {
		for _, at := range []int{9, 10, 11, 19, 20, 21, 0, -10, -15, least, greatest} {
			want := x.person
			if at >= 10 && at < 20 {
				want = x.want
			}
			expectFold(t, fmt.Sprint("case ", i), []api.Edit{x.edit}, x.person, at, want)
		}
	}
}

// From and To lie at t, a second before and a second behind it, or far away.
func TestFoldAtBorders(t *testing.T) {
	for _, at := range []int{0, 1, 15, may, most, -1, -7} {
		times := []int{least, -most, at - 2, at - 1, at, at + 1, at + 2, 2 * most, greatest}
		for i, from := range times {
			for k, to := range times {
				changed := func(before, after int) int {
					if i <= 4 && k > 4 {
						return after
					}
					return before
				}
				expectFold(t, "an override", edited(override(2, from, to)), 0, at, changed(0, 2))
				expectFold(t, "a hole", edited(override(-1, from, to)), 0, at, changed(0, -1))
				expectFold(t, "a swap of A", edited(swap(0, 2, from, to)), 0, at, changed(0, 2))
				expectFold(t, "a swap of B", edited(swap(0, 2, from, to)), 2, at, changed(2, 0))
				expectFold(t, "a leave", edited(leave(0, from, to)), 0, at, 0)
				expectFold(t, "two overrides", edited(override(3, at, at+1), override(2, from, to)), 0, at, changed(3, 2))
			}
		}
	}
}

func TestFoldOfSeveralEdits(t *testing.T) {
	for i, x := range []struct {
		edits        []api.Edit
		person, want int
	}{
		{nil, -1, -1}, {nil, 0, 0}, {nil, 31, 31}, {nil, least, least}, {nil, greatest, greatest}, {edited(), 3, 3},
		// An override last, first, and between others.
		{edited(swap(0, 1, 0, 9), leave(0, 0, 9), override(2, 0, 9)), 0, 2}, {edited(leave(0, 0, 9), swap(0, 1, 0, 9), override(0, 0, 9)), 0, 0}, {edited(override(3, 0, 9), override(2, 0, 9)), 0, 2}, {edited(override(3, 0, 9), override(-1, 0, 9)), 0, -1}, {edited(override(-1, 0, 9), override(3, 0, 9)), 0, 3},
		{edited(override(0, 0, 9), swap(0, 1, 0, 9), leave(1, 0, 9)), 5, 1}, {edited(override(2, 0, 9), leave(2, 0, 9), swap(0, 1, 0, 9)), 0, 2}, {edited(override(1, 0, 9), swap(0, 1, 0, 9)), -1, 0}, {edited(override(-1, 0, 9), swap(0, 1, 0, 9)), 0, -1}, {edited(override(-1, 0, 9), leave(0, 0, 9), swap(0, 1, 0, 9)), 1, -1},
		{edited(swap(0, 1, 0, 9), override(0, 0, 9), swap(0, 2, 0, 9)), 0, 2}, {edited(leave(0, 0, 9), override(0, 0, 9), leave(0, 0, 9)), 1, 0}, {edited(leave(0, 0, 9), override(1, 0, 9), swap(0, 1, 0, 9)), -1, 0}, {edited(swap(0, 1, 0, 9), override(2, 0, 9), leave(2, 0, 9)), 1, 2},
		// A leave first, last, and between others.
		{edited(leave(0, 0, 9), swap(0, 1, 0, 9)), 0, 1}, {edited(leave(1, 0, 9), swap(0, 1, 0, 9)), 0, 1}, {edited(swap(0, 1, 0, 9), leave(1, 0, 9)), 0, 1}, {edited(swap(0, 1, 0, 9), leave(0, 0, 9)), 0, 1}, {edited(swap(0, 1, 0, 9), leave(1, 0, 9), swap(1, 2, 0, 9)), 0, 2}, {edited(leave(0, 0, 9), leave(1, 0, 9), leave(0, 0, 9)), 0, 0}, {edited(leave(0, 0, 9), override(0, 0, 9)), 3, 0},
		// Swaps in a row.
		{edited(swap(0, 1, 0, 9), swap(0, 1, 0, 9)), 0, 0}, {edited(swap(0, 1, 0, 9), swap(0, 1, 0, 9)), 1, 1}, {edited(swap(0, 1, 0, 9), swap(1, 0, 0, 9)), 0, 0}, {edited(swap(0, 1, 0, 9), swap(1, 0, 0, 9)), 1, 1}, {edited(swap(0, 1, 0, 9), swap(0, 1, 0, 9), swap(0, 1, 0, 9)), 0, 1}, {edited(swap(0, 1, 0, 9), swap(0, 1, 0, 9)), 2, 2},
		{edited(swap(0, 1, 0, 9), swap(1, 2, 0, 9)), 0, 2}, {edited(swap(0, 1, 0, 9), swap(1, 2, 0, 9)), 1, 0}, {edited(swap(0, 1, 0, 9), swap(1, 2, 0, 9)), 2, 1}, {edited(swap(0, 1, 0, 9), swap(2, 1, 0, 9)), 0, 2}, {edited(swap(0, 1, 0, 9), swap(0, 2, 0, 9)), 0, 1}, {edited(swap(0, 1, 0, 9), swap(0, 2, 0, 9)), 1, 2}, {edited(swap(0, 1, 0, 9), swap(0, 2, 0, 9)), 2, 0},
		{edited(swap(0, 1, 0, 9), swap(1, 2, 0, 9), swap(2, 3, 0, 9)), 0, 3}, {edited(swap(2, 3, 0, 9), swap(1, 2, 0, 9), swap(0, 1, 0, 9)), 0, 1}, {edited(swap(2, 3, 0, 9), swap(1, 2, 0, 9), swap(0, 1, 0, 9)), 3, 0}, {edited(swap(0, 1, 0, 9), swap(1, 2, 0, 9), swap(0, 2, 0, 9)), 0, 0}, {edited(swap(0, 1, 0, 9), swap(1, 2, 0, 9), swap(0, 2, 0, 9)), 1, 2},
		{edited(swap(0, 1, 0, 9), swap(1, 2, 0, 9), swap(2, 3, 0, 9)), 7, 7}, {edited(swap(0, 1, 0, 9), swap(1, 2, 0, 9), swap(2, 3, 0, 9)), -1, -1},
		// Edits that are not active at 5 change nothing, wherever they lie.
		{edited(swap(0, 1, 0, 5), override(2, 6, 9), swap(0, 3, 5, 6)), 0, 3}, {edited(swap(0, 1, 0, 9), override(2, 0, 5), swap(1, 3, 5, 9)), 0, 3}, {edited(swap(0, 1, 0, 9), swap(1, 3, 5, 9), override(2, 0, 5)), 0, 3}, {edited(override(2, 6, 9), swap(0, 1, 0, 6)), 1, 0}, {edited(swap(0, 1, 0, 9), swap(0, 1, 6, 9)), 0, 1}, {edited(swap(0, 1, 0, 9), swap(0, 1, 0, 5)), 0, 1}, {edited(override(1, 4, 5), override(2, 5, 6), override(3, 6, 7)), 0, 2},
	} {
		expectFold(t, fmt.Sprint("case ", i), x.edits, x.person, 5, x.want)
	}
}

// Neither MaxEdits nor any other limit applies to Fold.
func TestFoldOfManyEdits(t *testing.T) {
	for _, n := range []int{47, 48, 49, 1000} {
		var chain, back, same []api.Edit
		for i := range n {
			chain = append(chain, swap(i, i+1, 0, 9))
			back = append(back, swap(n-i, n-i-1, 0, 9))
			same = append(same, swap(3, 4, 0, 9))
		}
		about := fmt.Sprint(n, " edits")
		for _, x := range []struct {
			l            []api.Edit
			person, want int
		}{
			{chain, 0, n}, {chain, 1, 0}, {chain, n, n - 1}, {chain, n + 1, n + 1}, {chain, -1, -1}, {back, n, 0}, {back, 0, 1}, {same, 3, 3 + n%2}, {same, 4, 4 - n%2}, {same, 5, 5}, {append(slices.Clone(chain), override(-1, 0, 9)), 0, -1}, {append(edited(override(n, 0, 9)), back...), -1, 0},
		} {
			if got := edit.Fold(x.l, x.person, 5); got != x.want {
				t.Errorf("%s: Fold(%d) = %d, want %d", about, x.person, got, x.want)
			}
			if got := edit.Fold(x.l, x.person, 9); got != x.person {
				t.Errorf("%s: Fold(%d) = %d behind them", about, x.person, got)
			}
		}
		for at := -1; at <= n; at++ {
			want := 9
			if at >= 0 && at < n {
				want = at % 8
			}
			if got := edit.Fold(many(n), 9, at); got != want {
				t.Errorf("%s: Fold at %d is %d, want %d", about, at, got, want)
			}
		}
	}
}

// P13.2

func TestExamples(t *testing.T) {
	noon := may + day/2
	c := conf(edited(swap(0, 1, may, may+day), override(2, may, noon)), starting(always(0), utc, monday-1, 0))
	for _, x := range []struct{ at, want int }{{may - 1, 0}, {may, 2}, {noon - 1, 2}, {noon, 1}, {may + day - 1, 1}, {may + day, 0}} {
		expectWho(t, "a swap and an override until noon", c, x.at, x.want)
	}
	slices.Reverse(c.Schedules[own].Edits)
	for _, x := range []struct{ at, want int }{{may - 1, 0}, {may, 2}, {noon - 1, 2}, {noon, 1}, {may + day, 0}} {
		expectWho(t, "an override until noon and a swap of others", c, x.at, x.want)
	}
	c.Schedules[own].Edits[0].A = 1
	for _, x := range []struct{ at, want int }{{may - 1, 0}, {may, 0}, {noon - 1, 0}, {noon, 1}, {may + day, 0}} {
		expectWho(t, "an override until noon and a swap of it", c, x.at, x.want)
	}
	c = conf(edited(override(-1, may, noon)), starting(always(0), utc, monday-1, 0))
	for _, x := range []struct{ at, want int }{{may - 1, 0}, {may, -1}, {noon - 1, -1}, {noon, 0}} {
		expectWho(t, "a hole", c, x.at, x.want)
	}
}

// The layers are two with 0 and 1, and above them 2 and 3 by turns, day by day; 2 is on call at may.
func TestWho(t *testing.T) {
	at := may + 5
	for i, x := range []struct {
		edits []api.Edit
		want  int
	}{
		{nil, 2}, {edited(override(4, at, at+1)), 4}, {edited(override(-1, at, at+1)), -1}, {edited(override(2, at, at+1)), 2}, {edited(override(4, at+1, at+2)), 2}, {edited(override(4, at-1, at)), 2}, {edited(override(4, at-1, at+1)), 4}, {edited(override(4, 0, end)), 4},
		{edited(swap(2, 4, at, at+1)), 4}, {edited(swap(4, 2, at, at+1)), 4}, {edited(swap(4, 5, at, at+1)), 2}, {edited(swap(1, 0, at, at+1)), 2}, {edited(swap(2, 4, at+1, at+2)), 2}, {edited(swap(2, 4, at-1, at)), 2}, {edited(swap(2, 3, 0, end)), 3},
		// The leave decides who is swapped, and wherever it stands in the list.
		{edited(leave(2, at, at+1)), 1}, {edited(leave(2, at, at+1), swap(1, 4, at, at+1)), 4}, {edited(swap(1, 4, at, at+1), leave(2, at, at+1)), 4}, {edited(leave(2, at, at+1), swap(2, 4, at, at+1)), 1}, {edited(swap(2, 4, at, at+1), leave(2, at, at+1)), 1}, {edited(leave(2, at, at+1), swap(2, 1, at, at+1)), 2}, {edited(leave(2, at, at+1), override(2, at, at+1)), 2}, {edited(override(2, at, at+1), leave(2, at, at+1)), 2},
		{edited(leave(2, at, at+1), leave(1, at, at+1)), 0}, {edited(leave(2, at, at+1), leave(1, at, at+1), leave(0, at, at+1)), -1}, {edited(leave(2, at, at+1), leave(1, at, at+1), leave(0, at, at+1), override(0, at, at+1)), 0}, {edited(leave(2, at, at+1), leave(1, at, at+1), leave(0, at, at+1), swap(0, 1, at, at+1)), -1}, {edited(swap(2, 4, at, at+1), leave(4, at, at+1)), 4}, {edited(leave(4, at, at+1), swap(2, 4, at, at+1)), 4}, {edited(leave(2, at+1, at+2)), 2}, {edited(leave(2, at-1, at)), 2},
		{edited(swap(2, 1, at, at+1), swap(2, 1, at, at+1)), 2}, {edited(swap(2, 4, at, at+1), swap(4, 5, at, at+1)), 5}, {edited(swap(4, 5, at, at+1), swap(2, 4, at, at+1)), 4}, {edited(swap(2, 4, at, at+1), override(-1, at, at+1), swap(4, 5, at, at+1)), -1}, {edited(override(-1, at, at+1), override(6, at, at+1), swap(6, 7, at, at+1)), 7},
	} {
		c := conf(x.edits, always(0), always(1), layer(api.UnitDays, 1, 2, 3))
		expectWho(t, fmt.Sprint("case ", i), c, at, x.want)
		// Edits of other schedules change nothing.
		c.Schedules[empty].Edits = edited(override(6, 0, end), swap(2, 6, 0, end), leave(1, 0, end))
		expectWho(t, fmt.Sprint("with others, case ", i), c, at, x.want)
		expectWhoOf(t, fmt.Sprint("beside it, case ", i), c, other, at, 7)
		expectWhoOf(t, fmt.Sprint("behind it, case ", i), c, empty, at, 2)
	}
}

func TestWhoWhereNobodyIsOnCall(t *testing.T) {
	sunday := with(always(1), 6*day, week)
	for i, layers := range [][]api.Layer{nil, {sunday}, {starting(always(1), utc, monday+1, 0), sunday}} {
		for k, x := range []struct {
			edits []api.Edit
			want  int
		}{
			{nil, -1}, {edited(override(3, may, may+9)), 3}, {edited(override(-1, may, may+9)), -1}, {edited(override(3, may+6, may+9)), -1}, {edited(swap(1, 3, may, may+9)), -1}, {edited(leave(1, may, may+9)), -1}, {edited(override(3, may, may+9), swap(1, 3, may, may+9)), 1}, {edited(swap(1, 3, may, may+9), override(3, may, may+9)), 3}, {edited(override(3, may, may+9), override(-1, may, may+9)), -1}, {edited(leave(3, may, may+9), override(3, may, may+9)), 3},
		} {
			expectWho(t, fmt.Sprintf("layers %d, edits %d", i, k), conf(x.edits, layers...), may+5, x.want)
		}
	}
}

func TestIndexesOfSchedules(t *testing.T) {
	for _, l := range [][]api.Edit{nil, edited(override(3, 0, end))} {
		c := conf(l, always(1))
		for i := range c.Schedules {
			c.Schedules[i].Edits = slices.Clone(l)
		}
		wants := []int{7, 1, -1}
		if l != nil {
			wants = []int{3, 3, 3}
		}
		for _, i := range []int{least, -2, -1, 0, 1, 2, 3, 4, 12, greatest} {
			want, e := nobody, api.ErrName
			if i >= 0 && i < 3 {
				want, e = wants[i], api.OK
			}
			expectWhoOf(t, "three schedules", c, i, may, want)
			expectApply(t, "three schedules", c, i, swap(0, 1, 5, 6), e)
			wrong := e
			if wrong == api.OK {
				wrong = api.ErrTwice
			}
			expectApply(t, "three schedules", c, i, swap(0, 0, 6, 5), wrong)
			for _, index := range []int{-1, 0, 1} {
				wrong := e
				if wrong == api.OK && (index < 0 || index >= len(l)) {
					wrong = api.ErrNone
				}
				expectCancel(t, "three schedules", c, i, index, wrong)
			}
		}
	}
	c := conf(nil)
	c.Schedules = nil
	for _, i := range []int{least, -1, 0, 1, greatest} {
		for _, c := range []api.Config{c, {}} {
			expectWhoOf(t, "no schedules", c, i, may, -1)
			expectApply(t, "no schedules", c, i, swap(0, 1, 5, 6), api.ErrName)
			expectCancel(t, "no schedules", c, i, 0, api.ErrName)
		}
	}
}

// Each of as many schedules as there may be.
func TestMaxSchedules(t *testing.T) {
	c := conf(nil)
	c.Schedules = nil
	for i := range 12 {
		c.Schedules = append(c.Schedules, api.Schedule{Name: fmt.Sprint("s", i), Edits: edited(override(i%8, 5, 9), leave(0, i, end))})
	}
	for i := -1; i <= 12; i++ {
		want, e := nobody, api.ErrName
		if i >= 0 && i < 12 {
			want, e = i%8, api.OK
		}
		expectWhoOf(t, "twelve schedules", c, i, 5, want)
		expectApply(t, "twelve schedules", c, i, swap(0, 1, i+5, i+9), e)
		expectCancel(t, "twelve schedules", c, i, 0, e)
		expectCancel(t, "twelve schedules", c, i, 1, e)
	}
}

func TestInstants(t *testing.T) {
	for _, at := range []int{least, least + 1, -most, -5, -1, most + 1, most + 5, 2 * most, greatest - 1, greatest} {
		for _, l := range [][]api.Edit{nil, edited(override(3, 0, end)), edited(override(3, 0, 5)), edited(override(3, end-1, end)), edited(swap(2, 3, 0, end), override(4, 0, end))} {
			c := conf(l, starting(always(2), east, 1, 0))
			expectWho(t, "out of range", c, at, -1)
			c.Schedules[own].Edits = append(c.Schedules[own].Edits, override(3, at, at+1)) // a wrong one
			expectWho(t, "out of range, with a wrong edit", c, at, -1)
		}
	}
	// The layer begins at 21600, since its zone is 18 hours ahead.
	plain := conf(nil, starting(always(2), east, 1, 0))
	edits := conf(edited(override(3, 0, end)), starting(always(2), east, 1, 0))
	swaps := conf(edited(swap(3, 2, 0, end)), starting(always(2), east, 1, 0))
	for _, x := range []struct{ at, plain, edits, swaps int }{{-1, -1, -1, -1}, {0, -1, 3, -1}, {1, -1, 3, -1}, {21599, -1, 3, -1}, {21600, 2, 3, 3}, {end - 1, 2, 3, 3}, {end, 2, 2, 2}, {most - 1, 2, 2, 2}, {most, 2, 2, 2}, {most + 1, -1, -1, -1}} {
		expectWho(t, "layers alone", plain, x.at, x.plain)
		expectWho(t, "an override for ever", edits, x.at, x.edits)
		expectWho(t, "a swap for ever", swaps, x.at, x.swaps)
	}
}

// wrongConfigs returns changes that make a configuration wrong.
func wrongConfigs() map[string]func(c *api.Config) {
	return map[string]func(c *api.Config){
		"the name of a zone":      func(c *api.Config) { c.Zones[2].Name = "Z" },
		"a rule":                  func(c *api.Config) { c.Zones[1].Rules[0].Month = 13 },
		"the name of a person":    func(c *api.Config) { c.People[3].Name = "nobody" },
		"quiet hours":             func(c *api.Config) { c.People[7].Quiet[0].To = 0 },
		"too few people":          func(c *api.Config) { c.People = c.People[:7] },
		"days that do not ascend": func(c *api.Config) { c.Calendars[0].Days = []int{5, 5} },
		"a schedule twice":        func(c *api.Config) { c.Schedules[other].Name = "own" },
		"more than MaxSchedules":  func(c *api.Config) { c.Schedules = slices.Repeat(c.Schedules, 5) },
		"more than MaxLayers":     func(c *api.Config) { c.Schedules[own].Layers = slices.Repeat(c.Schedules[own].Layers, 7) },
		"a layer of another":      func(c *api.Config) { c.Schedules[other].Layers[0].Every = 0 },
		"more than MaxEdits":      func(c *api.Config) { c.Schedules[own].Edits = many(49) },
		"the kind of an edit":     func(c *api.Config) { c.Schedules[own].Edits[0].Kind = 3 },
		"an empty edit":           func(c *api.Config) { c.Schedules[own].Edits[0].To = 0 },
		"an edit of another":      func(c *api.Config) { c.Schedules[empty].Edits[0].From = -1 },
		"no zones":                func(c *api.Config) { c.Zones = nil },
		"one more schedule":       func(c *api.Config) { c.Schedules = append(c.Schedules, api.Schedule{}) },
	}
}

func TestConfigsThatAreWrong(t *testing.T) {
	for about, change := range wrongConfigs() {
		c := conf(edited(override(2, 0, end)), always(1))
		expectWho(t, about, c, may, 2)
		change(&c)
		for _, schedule := range []int{least, -1, 0, 1, 2, 3, 15, greatest} {
			for _, at := range []int{least, -1, 0, may, most, most + 1, greatest} {
				expectWhoOf(t, about, c, schedule, at, -1)
			}
			for _, x := range []api.Edit{leave(0, 5, 6), override(-1, 5, 6), swap(0, 1, 5, 6), swap(0, 0, 6, 5), {Kind: 9}} {
				expectApply(t, about, c, schedule, x, api.ErrInvalid)
			}
			for _, index := range []int{least, -1, 0, 1, 48, greatest} {
				expectCancel(t, about, c, schedule, index, api.ErrInvalid)
			}
		}
	}
}

// P13.3

func TestApply(t *testing.T) {
	before := [][]api.Edit{nil, edited(leave(2, 5, 9)), edited(swap(0, 1, 5, 9), override(-1, 0, 1), leave(0, 2, end)), many(46), many(47)}
	right := []api.Edit{
		leave(0, 5, 6), leave(7, 0, 1), leave(3, 0, end), leave(3, end-1, end), leave(3, end-day, end-day+1),
		override(0, 5, 6), override(7, 0, end), override(-1, 5, 6), override(-1, 0, end),
		swap(0, 1, 5, 6), swap(1, 0, 5, 6), swap(0, 7, 5, 6), swap(7, 0, 0, end), swap(3, 4, 0, 1),
	}
	for i, l := range before {
		for _, layers := range [][]api.Layer{nil, {always(1)}, {always(1), with(layer(api.UnitDays, 3, 0, 1, 2), 0, day)}} {
			for schedule := range 3 {
				for _, x := range right {
					c := conf(nil, layers...)
					c.Schedules[schedule].Edits = l
					expectApply(t, fmt.Sprint("edits ", i), c, schedule, x, api.OK)
				}
			}
		}
	}
	// The same edit again and again is not refused, until there are too many of them.
	c := conf(nil, always(1))
	for i := range 49 {
		want := api.OK
		if i == 48 {
			want = api.ErrLimit
		}
		expectApply(t, fmt.Sprint("edits: ", i), c, own, swap(0, 1, 5, 6), want)
		c.Schedules[own].Edits = append(c.Schedules[own].Edits, swap(0, 1, 5, 6))
	}
}

func TestApplyRefuses(t *testing.T) {
	faults := []struct {
		x    api.Edit
		want api.Errno
	}{
		{api.Edit{Kind: 3, A: 0, From: 5, To: 6}, api.ErrRange}, {api.Edit{Kind: -1, A: 0, From: 5, To: 6}, api.ErrRange}, {api.Edit{Kind: least, A: 0, From: 5, To: 6}, api.ErrRange}, {api.Edit{Kind: greatest, A: -1, From: 6, To: 5}, api.ErrRange},
		{leave(-1, 5, 6), api.ErrName}, {leave(8, 5, 6), api.ErrName}, {leave(least, 5, 6), api.ErrName}, {leave(greatest, 5, 6), api.ErrName}, {override(-2, 5, 6), api.ErrName}, {override(8, 5, 6), api.ErrName}, {override(least, 5, 6), api.ErrName}, {swap(-1, 0, 5, 6), api.ErrName}, {swap(8, 0, 5, 6), api.ErrName}, {swap(0, -1, 5, 6), api.ErrName}, {swap(0, 8, 5, 6), api.ErrName}, {swap(-1, -1, 5, 6), api.ErrName}, {swap(0, greatest, 5, 6), api.ErrName},
		{api.Edit{Kind: api.EditLeave, A: 0, B: 1, From: 5, To: 6}, api.ErrRange}, {api.Edit{Kind: api.EditOverride, A: 0, B: -1, From: 5, To: 6}, api.ErrRange}, {api.Edit{Kind: api.EditOverride, A: -1, B: 1, From: 5, To: 6}, api.ErrRange},
		{swap(0, 0, 5, 6), api.ErrTwice}, {swap(7, 7, 5, 6), api.ErrTwice},
		{leave(0, -1, 6), api.ErrRange}, {leave(0, 5, -1), api.ErrRange}, {leave(0, -2, -1), api.ErrRange}, {leave(0, least, 6), api.ErrRange}, {leave(0, 5, end+1), api.ErrRange}, {leave(0, 5, most), api.ErrRange}, {leave(0, 5, greatest), api.ErrRange}, {override(0, end, end+1), api.ErrRange}, {swap(0, 1, 0, end+1), api.ErrRange}, {leave(0, end+2, end+1), api.ErrRange},
		{leave(0, 5, 5), api.ErrOrder}, {override(0, 5, 4), api.ErrOrder}, {swap(0, 1, 6, 5), api.ErrOrder}, {leave(0, 0, 0), api.ErrOrder}, {leave(0, end, end), api.ErrOrder}, {leave(0, greatest, end), api.ErrOrder}, {leave(0, end+1, end), api.ErrOrder}, {api.Edit{}, api.ErrOrder},
		// Of several errors, the first one.
		{api.Edit{Kind: 3, A: 8, B: 8, From: -1, To: -2}, api.ErrRange}, {leave(8, -1, -2), api.ErrName}, {leave(8, 6, 5), api.ErrName}, {swap(0, 0, -1, 5), api.ErrTwice}, {swap(0, 0, 6, 5), api.ErrTwice}, {swap(8, 8, 6, 5), api.ErrName}, {api.Edit{Kind: api.EditLeave, A: 0, B: 1, From: 6, To: 5}, api.ErrRange}, {leave(0, 6, -1), api.ErrRange},
	}
	for _, x := range faults {
		for i, l := range [][]api.Edit{nil, edited(leave(2, 5, 9)), many(47)} {
			for schedule := range 3 {
				c := conf(nil, always(1), always(2))
				c.Schedules[schedule].Edits = l
				expectApply(t, fmt.Sprint("edits ", i), c, schedule, x.x, x.want)
			}
		}
		full := conf(many(48), always(1))
		expectApply(t, "MaxEdits edits", full, own, x.x, api.ErrLimit)
		expectApply(t, "MaxEdits edits in another schedule", full, empty, x.x, x.want)
		for _, schedule := range []int{-1, 3, least, greatest} {
			expectApply(t, "no such schedule", full, schedule, x.x, api.ErrName)
		}
		full.People[7].Name = "p6"
		for _, schedule := range []int{-1, 0, 1, 2, 3} {
			expectApply(t, "a wrong configuration", full, schedule, x.x, api.ErrInvalid)
		}
	}
	// Who may be named depends on the people.
	c := conf(nil)
	c.Schedules = c.Schedules[own:]
	c.Schedules[1].Edits = nil
	c.People = nil
	expectApply(t, "no people", c, 0, leave(0, 5, 6), api.ErrName)
	expectApply(t, "no people", c, 0, override(0, 5, 6), api.ErrName)
	expectApply(t, "no people", c, 0, swap(0, 1, 5, 6), api.ErrName)
	expectApply(t, "no people", c, 0, override(-1, 5, 6), api.OK)
}

func TestCancel(t *testing.T) {
	for _, n := range []int{0, 1, 2, 3, 4, 47, 48} {
		for schedule := range 3 {
			c := conf(nil, always(1), layer(api.UnitDays, 3, 0, 1, 2))
			c.Schedules[schedule].Edits = many(n)
			for index := -2; index <= n+2; index++ {
				want := api.OK
				if index < 0 || index >= n {
					want = api.ErrNone
				}
				expectCancel(t, fmt.Sprint("edits: ", n), c, schedule, index, want)
			}
			for _, index := range []int{least, least + 1, 100, greatest} {
				expectCancel(t, fmt.Sprint("edits: ", n), c, schedule, index, api.ErrNone)
			}
		}
	}
	kinds := edited(leave(2, 5, 9), override(-1, 0, 1), swap(0, 1, 5, 9), leave(2, 5, 9))
	for index := range kinds {
		expectCancel(t, "each kind", conf(kinds, always(1)), own, index, api.OK)
	}
	// An index of the edits of another schedule is not enough.
	c := conf(edited(leave(2, 5, 9)), always(1))
	expectCancel(t, "another schedule has more", c, own, 1, api.ErrNone)
	expectCancel(t, "this schedule has more", c, other, 1, api.OK)
	expectCancel(t, "no such schedule", c, 3, 0, api.ErrName)
	expectCancel(t, "no such schedule, no such edit", c, -1, -1, api.ErrName)
	expectCancel(t, "no such schedule, no such edit", c, 3, 9, api.ErrName)
}

// Until all edits are cancelled, each time the first, a middle or the last one.
func TestCancelAll(t *testing.T) {
	for name, pick := range map[string]func(n int) int{"first": func(n int) int { return 0 }, "middle": func(n int) int { return n / 2 }, "last": func(n int) int { return n - 1 }} {
		c := conf(many(48), always(1))
		for n := 48; n > 0; n-- {
			expectCancel(t, name, c, own, pick(n), api.OK)
			c, _ = edit.Cancel(c, own, pick(n))
		}
		if !print.Same(c, conf(nil, always(1))) {
			t.Errorf("%s: without edits: %v", name, c)
		}
		expectCancel(t, name, c, own, 0, api.ErrNone)
	}
}

// R2

// memory returns the first and the last address of the lists of a value, with the room behind them.
func memory(v reflect.Value) [][2]uintptr {
	var l [][2]uintptr
	switch v.Kind() {
	case reflect.Struct:
		for i := range v.NumField() {
			l = append(l, memory(v.Field(i))...)
		}
	case reflect.Slice:
		if v.Cap() > 0 {
			l = append(l, [2]uintptr{v.Pointer(), v.Pointer() + uintptr(v.Cap())*v.Type().Elem().Size() - 1})
		}
		for i := range v.Len() {
			l = append(l, memory(v.Index(i))...)
		}
	}
	return l
}

// expectOwnMemory makes sure that no list of got shares memory with another one of it, or with one of the others.
func expectOwnMemory(t *testing.T, about string, got api.Config, others ...api.Config) {
	t.Helper()
	mine := memory(reflect.ValueOf(got))
	for i, a := range mine {
		rest := slices.Clone(mine[i+1:])
		for _, x := range others {
			rest = append(rest, memory(reflect.ValueOf(x))...)
		}
		for _, b := range rest {
			if a[0] <= b[1] && b[0] <= a[1] {
				t.Errorf("%s: memory is shared", about)
			}
		}
	}
}

// crowded returns a configuration whose lists have room behind them, and share memory where they can.
func crowded() api.Config {
	l := with(layer(api.UnitDays, 1, 0, 1), 0, day)
	c := conf(edited(leave(2, 5, 9), override(1, 6, 8), swap(0, 1, 7, 9)), l, l)
	for i := range c.People {
		c.People[i].Quiet = c.People[1].Quiet
	}
	s := c.Schedules[own]
	s.Edits = append(make([]api.Edit, 0, 60), s.Edits...)
	s.Layers = append(make([]api.Layer, 0, 9), s.Layers...)
	c.Schedules = append(make([]api.Schedule, 0, 9), c.Schedules...)
	for i := range c.Schedules {
		c.Schedules[i].Layers, c.Schedules[i].Edits = s.Layers, s.Edits
	}
	return c
}

func TestArgumentsAreUnchanged(t *testing.T) {
	for schedule := range 3 {
		c := crowded()
		old := clone(c)
		edit.Who(c, schedule, may)
		edit.Fold(c.Schedules[schedule].Edits, 0, 7)
		edit.Active(c.Schedules[schedule], 7)
		edit.Apply(c, schedule, swap(0, 1, 5, 9))
		edit.Apply(c, schedule, swap(0, 0, 5, 9))
		for i := -1; i < 4; i++ {
			edit.Cancel(c, schedule, i)
		}
		if !reflect.DeepEqual(c, old) {
			t.Error("the arguments are changed")
		}
		if room := c.Schedules[0].Edits[:60]; !slices.Equal(room[3:], make([]api.Edit, 57)) {
			t.Error("there is something behind the edits")
		}
	}
}

func TestResultsAreIndependent(t *testing.T) {
	for schedule := range 3 {
		c := crowded()
		old := clone(c)
		applied, _ := edit.Apply(c, schedule, swap(0, 1, 5, 9))
		again, _ := edit.Apply(c, schedule, swap(0, 1, 5, 9))
		var cancelled [3]api.Config
		for i := range cancelled {
			cancelled[i], _ = edit.Cancel(c, schedule, i)
		}
		expectOwnMemory(t, "Apply", applied, again, c, cancelled[0])
		expectOwnMemory(t, "Apply again", again, c, cancelled[1], cancelled[2])
		for i, x := range cancelled {
			expectOwnMemory(t, fmt.Sprint("Cancel ", i), x, c, cancelled[(i+1)%3])
		}
		results := append(cancelled[:], applied)
		wants := clone(results)
		blank(reflect.ValueOf(c))
		if !reflect.DeepEqual(results, wants) {
			t.Error("the results change with the argument")
		}
		c = clone(old)
		for i, x := range results {
			blank(reflect.ValueOf(x))
			if rest := i + 1; !reflect.DeepEqual(results[rest:], wants[rest:]) || !reflect.DeepEqual(c, old) {
				t.Error("the argument or other results change with a result")
			}
		}
	}
	s := crowded().Schedules[own]
	list := edit.Active(s, 7)
	clear(list)
	expectActive(t, "again", s.Edits, 7, 0, 1, 2)
}

// blank makes all elements of all lists of a value zero, the innermost ones first.
func blank(v reflect.Value) {
	switch v.Kind() {
	case reflect.Struct:
		for i := range v.NumField() {
			blank(v.Field(i))
		}
	case reflect.Slice:
		for i := range v.Len() {
			blank(v.Index(i))
			v.Index(i).SetZero()
		}
	}
}

// P13.4

func TestActive(t *testing.T) {
	expectActive(t, "none", nil, 5)
	expectActive(t, "none", edited(), 5)
	for i, x := range []api.Edit{leave(2, 10, 20), override(2, 10, 20), override(-1, 10, 20), swap(2, 5, 10, 20), {Kind: 3, From: 10, To: 20}, {Kind: -1, A: -9, B: -9, From: 10, To: 20}} {
		about := fmt.Sprint("one, ", i)
		for at, is := range map[int]bool{least: false, -15: false, 9: false, 10: true, 11: true, 19: true, 20: false, 21: false, greatest: false} {
			if is {
				expectActive(t, about, edited(x), at, 0)
				expectActive(t, about, edited(x, x, x), at, 0, 1, 2)
				continue
			}
			expectActive(t, about, edited(x), at)
			expectActive(t, about, edited(x, x, x), at)
		}
	}
	several := edited(swap(0, 1, 5, 9), leave(2, 0, 30), override(-1, 8, 12), swap(0, 1, 5, 9), leave(7, 9, 10), override(3, 20, 30))
	for _, x := range []struct {
		at   int
		want []int
	}{{-1, nil}, {0, []int{1}}, {4, []int{1}}, {5, []int{0, 1, 3}}, {7, []int{0, 1, 3}}, {8, []int{0, 1, 2, 3}}, {9, []int{1, 2, 4}}, {10, []int{1, 2}}, {11, []int{1, 2}}, {12, []int{1}}, {20, []int{1, 5}}, {29, []int{1, 5}}, {30, nil}} {
		expectActive(t, "several", several, x.at, x.want...)
	}
	// Times that are not right: an edit that ends before it begins is never active.
	for _, at := range []int{least, -1, 0, 4, 5, 6, 7, greatest} {
		expectActive(t, "empty ones", edited(leave(0, 5, 5), leave(0, 6, 5), leave(0, 7, 4), leave(0, greatest, least)), at)
	}
	expectActive(t, "for ever", edited(leave(0, least, greatest)), least, 0)
	expectActive(t, "for ever", edited(leave(0, least, greatest)), greatest-1, 0)
	expectActive(t, "for ever", edited(leave(0, least, greatest)), greatest)
	expectActive(t, "before 0", edited(leave(0, -5, -3), leave(0, -4, 0)), -4, 0, 1)
	expectActive(t, "the latest end", edited(leave(0, 0, end), leave(0, 0, end-1)), end-1, 0)
	expectActive(t, "the latest end", edited(leave(0, 0, end)), end)
	for _, n := range []int{48, 49, 1000} {
		for at := -1; at <= n; at++ {
			want := []int{at}
			if at < 0 || at >= n {
				want = nil
			}
			expectActive(t, "each at its own instant", many(n), at, want...)
		}
		var all []int
		for i := range n {
			all = append(all, i)
		}
		expectActive(t, "all of many", slices.Repeat(edited(leave(0, 3, 6)), n), 5, all...)
	}
}
