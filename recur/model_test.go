package recur_test

import (
	"reflect"
	"slices"
	"testing"

	"pagewatch/api"
	"pagewatch/recur"
	"pagewatch/zone"
)

// The following functions say what the definitions say, handover by handover.

// handoversUntil returns all handovers that are not after an instant. The zone and the layer are right.
func handoversUntil(z api.Zone, l api.Layer, last int) []int {
	var list []int
	first, e := zone.First(z, l.Start)
	for k := 0; e == api.OK; k++ {
		at := first + 3600*l.Every*k
		if l.Unit != api.UnitHours {
			days := l.Every * k
			if l.Unit == api.UnitWeeks {
				days *= 7
			}
			at, e = zone.First(z, local(l.Start.Day+days, l.Start.Second))
		}
		if e != api.OK || at > last {
			break
		}
		list = append(list, at)
	}
	return list
}

// wantShift returns the number of the last one of all handovers that is not after t.
func wantShift(all []int, t int) int {
	shift := -1
	for k, at := range all {
		if at <= t {
			shift = k
		}
	}
	return shift
}

// wantTurn goes round the members shift by shift.
func wantTurn(shift, members int) int {
	turn := -1
	for range shift + 1 {
		turn++
		if turn == members {
			turn = 0
		}
	}
	return turn
}

// wantBetween returns those of all handovers that are in a range.
func wantBetween(all []int, from, to int) []int {
	var list []int
	for _, at := range all {
		if from <= at && at < to {
			list = append(list, at)
		}
	}
	return list
}

// wantRight reports whether a zone and a layer are right.
func wantRight(z api.Zone, l api.Layer) bool {
	_, e := zone.Transitions(z)
	unit := l.Unit == api.UnitHours || l.Unit == api.UnitDays || l.Unit == api.UnitWeeks
	return e == api.OK && unit && 1 <= l.Start.Day && l.Start.Day <= 100000 && 0 <= l.Start.Second && l.Start.Second <= 86399 && 1 <= l.Every && l.Every <= 400 && len(l.Members) > 0
}

// secondsAt returns the local time of an instant in seconds since 1970-01-01 0:00, found without package zone's own search.
func secondsAt(offset int, transitions []api.Transition, t int) int {
	for _, x := range transitions {
		if x.At <= t {
			offset = x.Offset
		}
	}
	return t + offset
}

// expectLeast makes sure that an instant is the least one whose local time is at least so many seconds behind 1970-01-01 0:00. In a stretch between two transitions, the last instant has the latest local time.
func expectLeast(t *testing.T, z api.Zone, seconds, at int) {
	t.Helper()
	transitions, _ := zone.Transitions(z)
	if secondsAt(z.Offset, transitions, at) < seconds {
		t.Errorf("the local time %d is not yet reached at %d in %v", seconds, at, z)
	}
	for _, x := range append([]api.Transition{{At: at}}, transitions...) {
		if x.At > 0 && x.At <= at && secondsAt(z.Offset, transitions, x.At-1) >= seconds {
			t.Errorf("the local time %d is reached before %d, at %d, in %v", seconds, at, x.At-1, z)
		}
	}
}

// expectHandover compares Handover with what it must return.
func expectHandover(t *testing.T, z api.Zone, l api.Layer, k, want int, wantError api.Errno) {
	t.Helper()
	if got, e := recur.Handover(z, l, k); got != want || e != wantError {
		t.Errorf("Handover(%v, %v, %d) = %d, %d, want %d, %d", z, l, k, got, e, want, wantError)
	}
}

// expectShift compares Shift and Turn with what they must return.
func expectShift(t *testing.T, z api.Zone, l api.Layer, at, want int) {
	t.Helper()
	if got, e := recur.Shift(z, l, at); got != want || e != api.OK {
		t.Errorf("Shift(%v, %v, %d) = %d, %d, want %d", z, l, at, got, e, want)
	}
	turn := -1
	if want >= 0 {
		turn = want % len(l.Members)
	}
	if got, e := recur.Turn(z, l, at); got != turn || e != api.OK {
		t.Errorf("Turn(%v, %v, %d) = %d, %d, want %d", z, l, at, got, e, turn)
	}
}

// expectNoShift makes sure that Shift and Turn return an error.
func expectNoShift(t *testing.T, z api.Zone, l api.Layer, at int, want api.Errno) {
	t.Helper()
	if got, e := recur.Shift(z, l, at); got != 0 || e != want {
		t.Errorf("Shift(%v, %v, %d) = %d, %d, want 0, %d", z, l, at, got, e, want)
	}
	if got, e := recur.Turn(z, l, at); got != 0 || e != want {
		t.Errorf("Turn(%v, %v, %d) = %d, %d, want 0, %d", z, l, at, got, e, want)
	}
}

// expectHandovers compares Handovers with what it must return.
func expectHandovers(t *testing.T, z api.Zone, l api.Layer, from, to int, want []int, wantError api.Errno) {
	t.Helper()
	if got, e := recur.Handovers(z, l, from, to); !slices.Equal(got, want) || e != wantError {
		t.Errorf("Handovers(%v, %v, %d, %d) = %v, %d, want %v, %d", z, l, from, to, brief(got), e, brief(want), wantError)
	}
}

// brief returns the beginning of a long list.
func brief(l []int) []int {
	return l[:min(len(l), 12)]
}

// expectWrong makes sure that all functions return ErrInvalid for a zone and a layer that are not right, also where another error applies.
func expectWrong(t *testing.T, z api.Zone, l api.Layer) {
	t.Helper()
	if e := recur.Check(z, l); e != api.ErrInvalid {
		t.Errorf("Check(%v, %v) = %d", z, l, e)
	}
	for _, n := range []int{least, -1, 0, 1, 20000 * day, most, most + 1, greatest} {
		expectHandover(t, z, l, n, 0, api.ErrInvalid)
		expectNoShift(t, z, l, n, api.ErrInvalid)
		for _, to := range []int{least, n - 1, n, n + 1, n + longest, n + longest + 1, greatest} {
			expectHandovers(t, z, l, n, to, nil, api.ErrInvalid)
		}
	}
}

// expectRight makes sure that no function returns ErrInvalid.
func expectRight(t *testing.T, z api.Zone, l api.Layer) {
	t.Helper()
	if e := recur.Check(z, l); e != api.OK {
		t.Errorf("Check(%v, %v) = %d", z, l, e)
	}
	if _, e := recur.Handover(z, l, 0); e == api.ErrInvalid {
		t.Errorf("Handover(%v, %v, 0): %d", z, l, e)
	}
	expectHandover(t, z, l, -1, 0, api.ErrRange)
	expectShift(t, z, l, 0, -1)
	expectNoShift(t, z, l, -1, api.ErrRange)
	expectHandovers(t, z, l, 5, 5, nil, api.OK)
	expectHandovers(t, z, l, 5, 4, nil, api.ErrRange)
}

// clone returns a layer and a zone that share no memory with others.
func clone(z api.Zone, l api.Layer) (api.Zone, api.Layer) {
	z.Rules = slices.Clone(z.Rules)
	l.Members = slices.Clone(l.Members)
	l.Windows = slices.Clone(l.Windows)
	return z, l
}

func sameArguments(z api.Zone, l api.Layer, y api.Zone, m api.Layer) bool {
	return reflect.DeepEqual(z, y) && reflect.DeepEqual(l, m)
}

// mixedNumbers returns a function whose results are less than n and look as if by chance, but are the same in each run.
func mixedNumbers(seed uint64) func(n int) int {
	return func(n int) int {
		seed = seed*6364136223846793005 + 1442695040888963407
		return int((seed >> 24) % uint64(n))
	}
}

// mixedOffset returns an offset, often one of those that zones have.
func mixedOffset(next func(n int) int) int {
	common := []int{0, hour, -hour, 2 * hour, widest, -widest, 43199, -43200, 1, -1}
	if next(3) > 0 {
		return common[next(len(common))]
	}
	return next(2*widest+1) - widest
}

// mixedZone returns a right zone with transitions in the years 2000 to 2004, or with none.
func mixedZone(next func(n int) int) api.Zone {
	for {
		z := in(mixedOffset(next))
		for range next(7) {
			from := 2000 + next(4)
			second := []int{0, 1, 2 * hour, 9000, day / 2, day - 1, next(day)}[next(7)]
			z.Rules = append(z.Rules, api.YearRule{From: from, To: from + next(2004-from+1), Month: 1 + next(12), Week: 1 + next(5), Weekday: next(7), Second: second, Offset: mixedOffset(next)})
		}
		if zone.Check(z) == api.OK {
			return z
		}
	}
}

// mixedLayer returns a right layer that starts not long before 2000 or until 2004, often at a local time near a transition.
func mixedLayer(next func(n int) int, transitions []api.Transition) api.Layer {
	start := newYear + next(5*365*day) - 30*day
	if len(transitions) > 0 && next(4) > 0 {
		x := transitions[next(len(transitions))]
		start = x.At + x.Offset - next(3)*week + []int{-hour, -1, 0, 1, hour, next(2*day) - day}[next(6)]
	}
	every := []int{1, 1, 1, 2, 3, 7, 24, 25, 168, 400, 1 + next(400)}[next(11)]
	return api.Layer{Start: localAt(start), Unit: next(3), Every: every, Members: make([]int, 1+next(5))}
}

// instantsNear returns instants at, before and behind those of a list and the transitions, and others.
func instantsNear(next func(n int) int, all []int, transitions []api.Transition, last int) []int {
	list := []int{0, 1, last}
	add := func(at int) {
		for _, n := range []int{at - hour, at - 1, at, at + 1, at + hour, at + next(2*day) - day} {
			list = append(list, min(max(n, 0), last))
		}
	}
	for i := range 12 {
		if i < len(all) {
			add(all[i])
		}
		if len(all) > 0 {
			add(all[next(len(all))])
		}
		if len(transitions) > 0 {
			add(transitions[next(len(transitions))].At)
		}
		list = append(list, next(last+1))
	}
	return list
}

// TestMixedLayers compares all functions with the definitions.
func TestMixedLayers(t *testing.T) {
	const last = newYear + 6*365*day
	for seed := range 600 {
		next := mixedNumbers(uint64(seed))
		z := mixedZone(next)
		transitions, _ := zone.Transitions(z)
		l := mixedLayer(next, transitions)
		all := handoversUntil(z, l, last)
		for k := range min(len(all), 40) {
			expectHandover(t, z, l, k, all[k], api.OK)
		}
		for range min(len(all), 20) {
			k := next(len(all))
			expectHandover(t, z, l, k, all[k], api.OK)
		}
		instants := instantsNear(next, all, transitions, last)
		for _, at := range instants {
			expectShift(t, z, l, at, wantShift(all, at))
			to := min(instants[next(len(instants))], at+longest)
			if to >= at {
				expectHandovers(t, z, l, at, to, wantBetween(all, at, to), api.OK)
			}
			to = min(at+[]int{0, 1, hour, day, week, 10 * week, longest}[next(7)], last)
			expectHandovers(t, z, l, at, to, wantBetween(all, at, to), api.OK)
		}
		if t.Failed() {
			t.Fatalf("seed %d", seed)
		}
	}
}

// TestMixedHandoversAreLeast compares handovers of days and weeks with their local times, without a search of package zone.
func TestMixedHandoversAreLeast(t *testing.T) {
	for seed := range 1000 {
		next := mixedNumbers(uint64(seed) + 1000)
		z := mixedZone(next)
		transitions, _ := zone.Transitions(z)
		l := mixedLayer(next, transitions)
		step := l.Every * []int{0, day, week}[l.Unit]
		before := -1
		for k := range 60 {
			at, e := recur.Handover(z, l, k)
			if e == api.ErrNone {
				break
			}
			if e != api.OK || at <= before {
				t.Fatalf("seed %d: Handover(%v, %v, %d) = %d, %d, behind %d", seed, z, l, k, at, e, before)
			}
			if l.Unit != api.UnitHours {
				expectLeast(t, z, l.Start.Day*day+l.Start.Second+k*step, at)
			}
			before = at
		}
	}
}

// TestMixedFaults changes a right zone and layer by one number, or two, and compares Check with the definition.
func TestMixedFaults(t *testing.T) {
	numbers := []int{least, least + 1, -86400, -401, -2, -1, 0, 1, 2, 3, 4, 399, 400, 401, 86399, 86400, 99999, 100000, 100001, most, most + 1, greatest - 1, greatest}
	right := 0
	for seed := range 6000 {
		next := mixedNumbers(uint64(seed) + 5000)
		z := in(hour, on(3, 7200, 7200))
		l := layer(1+next(100000), next(day), next(3), 1+next(400), 1+next(3))
		for range next(3) {
			n := numbers[next(len(numbers))]
			switch next(7) {
			case 0:
				l.Start.Day = n
			case 1:
				l.Start.Second = n
			case 2:
				l.Unit = n
			case 3:
				l.Every = n
			case 4:
				l.Members = nil
			case 5:
				z.Offset = n
			default:
				z.Rules[0].Offset = n
			}
		}
		if wantRight(z, l) {
			right++
			expectRight(t, z, l)
			continue
		}
		expectWrong(t, z, l)
	}
	if right < 1000 || right > 5000 {
		t.Errorf("%d of the layers are right", right)
	}
}

// TestModel makes sure that the model itself answers the examples of the chapter.
func TestModel(t *testing.T) {
	l := layer(20540, 9000, api.UnitDays, 1, 3)
	all := handoversUntil(europe(), l, spring+day)
	if !slices.Equal(all, []int{1774661400, spring, 1774830600}) || wantShift(all, spring) != 1 || wantShift(all, spring-1) != 0 || wantShift(all, 0) != -1 {
		t.Errorf("handovers: %v", all)
	}
	if wantTurn(-1, 1) != -1 || wantTurn(0, 1) != 0 || wantTurn(5, 1) != 0 || wantTurn(5, 3) != 2 || wantTurn(6, 3) != 0 {
		t.Error("turns")
	}
	if !slices.Equal(wantBetween(all, 1774661400, spring), []int{1774661400}) || len(wantBetween(all, 1774661401, spring)) != 0 {
		t.Error("ranges")
	}
}
