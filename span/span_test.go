package span_test

import (
	"math"
	"slices"
	"testing"

	"pagewatch/api"
	"pagewatch/span"
)

const (
	most   = api.MaxInstant
	places = 8 // numbers that a small set is made of
)

// s returns the spans whose borders are given in pairs.
func s(borders ...int) []api.Span {
	var l []api.Span
	for i := 0; i+1 < len(borders); i += 2 {
		l = append(l, api.Span{From: borders[i], To: borders[i+1]})
	}
	return l
}

// comb returns n spans of one number each, the first one at from.
func comb(n, distance, from int) []api.Span {
	var l []api.Span
	for i := range n {
		l = append(l, api.Span{From: from + i*distance, To: from + i*distance + 1})
	}
	return l
}

// notSets breaks each rule of a set.
func notSets() [][]api.Span {
	return [][]api.Span{
		s(1, 1), s(2, 1), s(0, 0), s(most, most), s(most, 0), s(math.MaxInt, math.MinInt), s(0, 1, 5, 5), s(5, 5, 7, 8), s(0, 1, 5, 4), s(0, 9, 5, 4),
		s(-1, 1), s(-1, 0), s(-5, -3), s(math.MinInt, 1), s(math.MinInt, math.MaxInt), s(-1, 1, 2, 3),
		s(0, most+1), s(most, most+1), s(most+1, most+2), s(0, math.MaxInt), s(0, 1, most, most+1), s(0, 1, 2, math.MaxInt),
		s(1, 2, 2, 4), s(1, 3, 2, 4), s(1, 9, 2, 4), s(1, 2, 1, 2), s(3, 4, 1, 2), s(3, 4, 1, 3), s(0, 1, 6, 8, 3, 4), s(0, 1, 3, 4, 4, 5), s(0, 1, 3, 4, 2, 9),
		comb(api.MaxSpans+1, 2, 0), append(comb(api.MaxSpans-1, 2, 0), s(2*api.MaxSpans, 2*api.MaxSpans)...), append(comb(api.MaxSpans-1, 2, 0), s(0, 1)...),
	}
}

// The following functions say what the promises say, number by number.

func wantValid(l []api.Span) bool {
	for i, x := range l {
		if x.From < 0 || x.From >= x.To || x.To > most || i > 0 && l[i-1].To >= x.From {
			return false
		}
	}
	return len(l) <= api.MaxSpans
}

// wantSet returns the set of the numbers base + k for which has[k] is true.
func wantSet(has []bool, base int) []api.Span {
	var l []api.Span
	for k, in := range has {
		switch {
		case in && (k == 0 || !has[k-1]):
			l = append(l, api.Span{From: base + k, To: base + k + 1})
		case in:
			l[len(l)-1].To++
		}
	}
	return l
}

// smallSets returns, for each set of small numbers, which of them it has.
func smallSets() [][]bool {
	var all [][]bool
	for mask := range 1 << places {
		has := make([]bool, places)
		for k := range has {
			has[k] = mask>>k&1 == 1
		}
		all = append(all, has)
	}
	return all
}

// bases are the lowest and the highest place at which a small set may begin.
func bases() []int { return []int{0, most - places} }

// shortLists calls f with all lists of at most three of the spans with these borders.
func shortLists(borders []int, f func(l []api.Span)) {
	var spans []api.Span
	for _, from := range borders {
		for _, to := range borders {
			spans = append(spans, api.Span{From: from, To: to})
		}
	}
	f(nil)
	for _, a := range spans {
		f([]api.Span{a})
		for _, b := range spans {
			f([]api.Span{a, b})
			for _, c := range spans {
				f([]api.Span{a, b, c})
			}
		}
	}
}

// mixedNumbers returns a function whose results are less than n and look as if by chance, but are the same in each run.
func mixedNumbers() func(n int) int {
	state := uint64(1)
	return func(n int) int {
		state = state*6364136223846793005 + 1442695040888963407
		return int((state >> 24) % uint64(n))
	}
}

func operations() map[string]func(a, b []api.Span) ([]api.Span, api.Errno) {
	return map[string]func(a, b []api.Span) ([]api.Span, api.Errno){"Union": span.Union, "Meet": span.Meet, "Minus": span.Minus}
}

// chosen tells for each operation whether it has a number.
func chosen(name string, inA, inB bool) bool {
	switch name {
	case "Union":
		return inA || inB
	case "Meet":
		return inA && inB
	default:
		return inA && !inB
	}
}

// P3.1

func TestValid(t *testing.T) {
	for i, l := range [][]api.Span{
		nil, {}, s(0, 1), s(0, most), s(most-1, most), s(1, 2), s(5, 900), s(1, 2, 3, 4), s(0, 5, 6, 7, 1000, most), s(0, most-2, most-1, most),
		comb(api.MaxSpans-1, 2, 0), comb(api.MaxSpans, 2, 0), comb(api.MaxSpans, 2, most+1-2*api.MaxSpans),
	} {
		if !span.Valid(l) {
			t.Errorf("%d: Valid is false", i)
		}
	}
	for i, l := range notSets() {
		if span.Valid(l) {
			t.Errorf("%d: Valid is true", i)
		}
	}
}

func TestValidOfShortLists(t *testing.T) {
	shortLists([]int{math.MinInt, -1, 0, 1, 2, 3, 4, most - 1, most, most + 1, math.MaxInt}, func(l []api.Span) {
		if got, want := span.Valid(l), wantValid(l); got != want {
			t.Fatalf("Valid(%v) = %t", l, got)
		}
	})
}

func TestNormal(t *testing.T) {
	for i, x := range []struct{ l, want []api.Span }{
		{nil, nil}, {[]api.Span{}, nil}, {s(5, 9, 1, 3, 3, 4, 7, 6), s(1, 4, 5, 9)}, {s(0, most), s(0, most)}, {s(most-1, most, 0, 1), s(0, 1, most-1, most)},
		// In any order, and equal.
		{s(1, 2, 4, 5, 7, 9), s(1, 2, 4, 5, 7, 9)}, {s(7, 9, 4, 5, 1, 2), s(1, 2, 4, 5, 7, 9)}, {s(4, 5, 7, 9, 1, 2), s(1, 2, 4, 5, 7, 9)}, {s(1, 2, 1, 2, 1, 2), s(1, 2)},
		// They touch, overlap, or lie in each other.
		{s(1, 2, 2, 3), s(1, 3)}, {s(2, 3, 1, 2), s(1, 3)}, {s(1, 2, 3, 4), s(1, 2, 3, 4)}, {s(1, 5, 3, 9), s(1, 9)}, {s(3, 9, 1, 5), s(1, 9)}, {s(1, 9, 2, 3), s(1, 9)}, {s(2, 3, 1, 9), s(1, 9)}, {s(1, 9, 1, 3), s(1, 9)}, {s(1, 3, 1, 9), s(1, 9)},
		{s(1, 9, 2, 3, 0, 1), s(0, 9)}, {s(1, 9, 2, 3, 5, 10), s(1, 10)}, {s(1, 9, 2, 3, 4, 5, 9, 11, 13, 14), s(1, 11, 13, 14)}, {s(0, most, 7, 8, most-1, most), s(0, most)},
		// Without numbers, wherever they lie.
		{s(4, 4), nil}, {s(5, 4), nil}, {s(most, 0), nil}, {s(0, 0, most, most), nil}, {s(4, 4, 1, 2, 9, 7), s(1, 2)}, {s(1, 2, 2, 2, 2, 1, 3, 4), s(1, 2, 3, 4)}, {s(1, 2, 5, 0, 3, 4), s(1, 2, 3, 4)},
		{s(-1, -1), nil}, {s(-7, -8), nil}, {s(0, -1), nil}, {s(most+1, most+1), nil}, {s(most+5, 0), nil}, {s(math.MaxInt, math.MinInt, 3, 4, math.MinInt, math.MinInt, math.MaxInt, math.MaxInt), s(3, 4)},
	} {
		if got, e := span.Normal(x.l); !slices.Equal(got, x.want) || e != api.OK {
			t.Errorf("%d: Normal(%v) = %v, %d, want %v", i, x.l, got, e, x.want)
		}
	}
}

func TestNormalOutOfRange(t *testing.T) {
	for _, l := range [][]api.Span{
		s(-1, 0), s(-1, 1), s(-5, -3), s(-1, most), s(-1, most+1), s(0, most+1), s(most, most+1), s(most-1, most+1), s(most+5, most+7),
		s(math.MinInt, math.MaxInt), s(math.MinInt, math.MinInt+1), s(math.MaxInt-1, math.MaxInt), s(math.MinInt, 5), s(5, math.MaxInt),
		s(1, 2, -1, 0), s(-1, 0, 1, 2), s(0, most, 3, most+1), s(4, 4, -1, 5), s(most, most+1, 0, 1),
		append(comb(api.MaxSpans-1, 2, 0), s(-1, 0)...), append(s(0, most+1), comb(api.MaxSpans-1, 2, 0)...),
	} {
		if got, e := span.Normal(l); len(got) != 0 || e != api.ErrRange {
			t.Errorf("Normal of %d spans, with %v first, = %d spans, %d", len(l), l[0], len(got), e)
		}
	}
}

func TestNormalOfShortLists(t *testing.T) {
	// The numbers of these spans begin one before the first instant, or end one behind the last one.
	for _, low := range []int{-1, most - 6} {
		var borders []int
		for k := range 8 {
			borders = append(borders, low+k)
		}
		shortLists(borders, func(l []api.Span) {
			has := make([]bool, 7)
			for _, x := range l {
				for n := x.From; n < x.To; n++ {
					has[n-low] = true
				}
			}
			want, wantError := wantSet(has, low), api.OK
			if low < 0 && has[0] || low > 0 && has[6] {
				want, wantError = nil, api.ErrRange
			}
			if got, e := span.Normal(l); !slices.Equal(got, want) || e != wantError {
				t.Fatalf("Normal(%v) = %v, %d, want %v, %d", l, got, e, want, wantError)
			}
		})
	}
}

func TestNormalOfLongLists(t *testing.T) {
	apart, touching := comb(api.MaxSpans, 2, 0), comb(api.MaxSpans, 1, 7)
	for name, x := range map[string]struct{ l, want []api.Span }{"apart": {apart, apart}, "touching": {touching, s(7, 7+api.MaxSpans)}, "equal": {slices.Repeat(s(3, 4), api.MaxSpans), s(3, 4)}} {
		mixed := make([]api.Span, 0, api.MaxSpans)
		for i := range api.MaxSpans {
			mixed = append(mixed, x.l[i*1237%api.MaxSpans]) // each one once: 1237 is odd, MaxSpans a power of 2
		}
		reversed := slices.Clone(x.l)
		slices.Reverse(reversed)
		for i, l := range [][]api.Span{x.l, mixed, reversed} {
			if got, e := span.Normal(l); !slices.Equal(got, x.want) || e != api.OK {
				t.Errorf("%s, %d: Normal = %d spans, %d", name, i, len(got), e)
			}
		}
	}
}

func TestNormalBeyondTheLimit(t *testing.T) {
	for i, l := range [][]api.Span{
		comb(api.MaxSpans+1, 2, 0), comb(2*api.MaxSpans, 2, 0),
		// The result would be a set: spans that touch, are equal, or have no numbers.
		comb(api.MaxSpans+1, 1, 0), slices.Repeat(s(3, 4), api.MaxSpans+1), slices.Repeat(s(4, 4), api.MaxSpans+1), append(comb(api.MaxSpans, 2, 0), s(7, 6)...),
		// ErrLimit comes before ErrRange.
		append(comb(api.MaxSpans, 2, 0), s(-1, 0)...), append(s(0, most+1), comb(api.MaxSpans, 2, 0)...), slices.Repeat(s(-1, 0), api.MaxSpans+1),
	} {
		if got, e := span.Normal(l); len(got) != 0 || e != api.ErrLimit {
			t.Errorf("%d: Normal = %d spans, %d", i, len(got), e)
		}
	}
}

// P3.2 and P3.4

func TestElements(t *testing.T) {
	l := s(2, 4, 7, 10, 11, 12)
	for _, x := range []struct {
		x          int
		has        bool
		first, gap int
		ok         bool
	}{
		{math.MinInt, false, 2, math.MinInt, true}, {-5, false, 2, -5, true}, {-1, false, 2, -1, true}, {0, false, 2, 0, true}, {1, false, 2, 1, true},
		{2, true, 2, 4, true}, {3, true, 3, 4, true}, {4, false, 7, 4, true}, {5, false, 7, 5, true}, {6, false, 7, 6, true}, {7, true, 7, 10, true}, {9, true, 9, 10, true}, {10, false, 11, 10, true}, {11, true, 11, 12, true},
		{12, false, 0, 12, false}, {13, false, 0, 13, false}, {most, false, 0, most, false}, {math.MaxInt, false, 0, math.MaxInt, false},
	} {
		first, ok := span.First(l, x.x)
		if has, gap := span.Has(l, x.x), span.Gap(l, x.x); has != x.has || first != x.first || ok != x.ok || gap != x.gap {
			t.Errorf("%d: Has is %t, First %d, %t, Gap %d", x.x, has, first, ok, gap)
		}
	}
}

func TestElementsOfTheGreatestSet(t *testing.T) {
	l := s(0, most)
	for _, x := range []struct {
		x          int
		has        bool
		first, gap int
		ok         bool
	}{
		{math.MinInt, false, 0, math.MinInt, true}, {-1, false, 0, -1, true}, {0, true, 0, most, true}, {1, true, 1, most, true}, {most - 1, true, most - 1, most, true},
		{most, false, 0, most, false}, {most + 1, false, 0, most + 1, false}, {math.MaxInt, false, 0, math.MaxInt, false},
	} {
		first, ok := span.First(l, x.x)
		if has, gap := span.Has(l, x.x), span.Gap(l, x.x); has != x.has || first != x.first || ok != x.ok || gap != x.gap {
			t.Errorf("%d: Has is %t, First %d, %t, Gap %d", x.x, has, first, ok, gap)
		}
	}
	if got := span.Length(l); got != most {
		t.Errorf("Length = %d", got)
	}
}

func TestElementsOfSmallSets(t *testing.T) {
	for _, base := range bases() {
		for _, has := range smallSets() {
			l := wantSet(has, base)
			length := 0
			// From the greatest number to the least one, these are the least element and the least other number so far.
			first, ok, gap := 0, false, 0
			for x := base + places + 3; x >= base-3; x-- {
				in := x >= base && x < base+places && has[x-base]
				if in {
					length++
					first, ok = x, true
				} else {
					gap = x
				}
				gotFirst, gotOk := span.First(l, x)
				if gotHas, gotGap := span.Has(l, x), span.Gap(l, x); gotHas != in || gotFirst != first || gotOk != ok || gotGap != gap {
					t.Fatalf("%v, %d: Has is %t, First %d, %t, Gap %d", l, x, gotHas, gotFirst, gotOk, gotGap)
				}
			}
			if got := span.Length(l); got != length {
				t.Fatalf("Length(%v) = %d", l, got)
			}
		}
	}
}

func TestElementsOfNoSet(t *testing.T) {
	for i, l := range append(notSets(), nil, []api.Span{}) {
		for _, x := range []int{math.MinInt, -5, -1, 0, 1, 2, 3, 4, 5, 6, 7, 8, 2 * api.MaxSpans, most - 1, most, most + 1, math.MaxInt - 1, math.MaxInt} {
			first, ok := span.First(l, x)
			if has, gap := span.Has(l, x), span.Gap(l, x); has || first != 0 || ok || gap != x {
				t.Errorf("%d: %d: Has is %t, First %d, %t, Gap %d", i, x, has, first, ok, gap)
			}
		}
		if got := span.Length(l); got != 0 {
			t.Errorf("%d: Length = %d", i, got)
		}
	}
}

func TestElementsOfLongSets(t *testing.T) {
	l := comb(api.MaxSpans, 2, 0)
	last := 2*api.MaxSpans - 2
	first, ok := span.First(l, last-1)
	if first != last || !ok || !span.Has(l, last) || span.Has(l, last-1) || span.Gap(l, last) != last+1 || span.Length(l) != api.MaxSpans {
		t.Errorf("First is %d, %t, Gap %d, Length %d", first, ok, span.Gap(l, last), span.Length(l))
	}
	if first, ok := span.First(l, last+1); first != 0 || ok {
		t.Errorf("First behind the set is %d, %t", first, ok)
	}
}

// P3.3

func TestSets(t *testing.T) {
	for i, x := range []struct{ a, b, union, meet, minus []api.Span }{
		{nil, nil, nil, nil, nil}, {[]api.Span{}, nil, nil, nil, nil}, {nil, s(1, 2), s(1, 2), nil, nil}, {s(1, 2), nil, s(1, 2), nil, s(1, 2)},
		{s(0, 10), s(2, 3, 5, 20), s(0, 20), s(2, 3, 5, 10), s(0, 2, 3, 5)}, {s(2, 3, 5, 20), s(0, 10), s(0, 20), s(2, 3, 5, 10), s(10, 20)},
		{s(0, 1), s(1, 2), s(0, 2), nil, s(0, 1)}, {s(1, 2), s(0, 1), s(0, 2), nil, s(1, 2)}, {s(0, 1, 2, 3), s(1, 2), s(0, 3), nil, s(0, 1, 2, 3)}, {s(0, 1), s(2, 3), s(0, 1, 2, 3), nil, s(0, 1)},
		{s(0, 5, 7, 9), s(0, 5, 7, 9), s(0, 5, 7, 9), s(0, 5, 7, 9), nil}, {s(0, 4, 6, 9), s(3, 7), s(0, 9), s(3, 4, 6, 7), s(0, 3, 7, 9)}, {s(0, 9), s(0, 4), s(0, 9), s(0, 4), s(4, 9)}, {s(0, 9), s(4, 9), s(0, 9), s(4, 9), s(0, 4)},
		{s(0, most), s(0, most), s(0, most), s(0, most), nil}, {s(0, most), s(0, 1, most-1, most), s(0, most), s(0, 1, most-1, most), s(1, most-1)}, {s(0, 1, most-1, most), s(0, most), s(0, most), s(0, 1, most-1, most), nil}, {s(0, 1), s(most-1, most), s(0, 1, most-1, most), nil, s(0, 1)},
	} {
		for name, want := range map[string][]api.Span{"Union": x.union, "Meet": x.meet, "Minus": x.minus} {
			if got, e := operations()[name](x.a, x.b); !slices.Equal(got, want) || e != api.OK {
				t.Errorf("%d: %s(%v, %v) = %v, %d, want %v", i, name, x.a, x.b, got, e, want)
			}
		}
	}
}

func TestSetsOfSmallSets(t *testing.T) {
	for name, f := range operations() {
		for _, base := range bases() {
			for _, hasA := range smallSets() {
				for _, hasB := range smallSets() {
					a, b := wantSet(hasA, base), wantSet(hasB, base)
					has := make([]bool, places)
					for k := range has {
						has[k] = chosen(name, hasA[k], hasB[k])
					}
					want := wantSet(has, base)
					if got, e := f(a, b); !slices.Equal(got, want) || e != api.OK {
						t.Fatalf("%s(%v, %v) = %v, %d, want %v", name, a, b, got, e, want)
					}
				}
			}
		}
	}
}

func TestSetsOfLongSets(t *testing.T) {
	next := mixedNumbers()
	for round := range 60 {
		hasA, hasB := make([]bool, 4000), make([]bool, 4000)
		for k := range hasA {
			hasA[k], hasB[k] = next(60) < round, next(60) >= round
		}
		a, b := wantSet(hasA, 1000), wantSet(hasB, 1000)
		for name, f := range operations() {
			has := make([]bool, len(hasA))
			for k := range has {
				has[k] = chosen(name, hasA[k], hasB[k])
			}
			if got, e := f(a, b); !slices.Equal(got, wantSet(has, 1000)) || e != api.OK {
				t.Errorf("%d: %s = %d spans, %d", round, name, len(got), e)
			}
		}
	}
}

func TestSetsAtTheLimit(t *testing.T) {
	half := api.MaxSpans / 2
	long := comb(api.MaxSpans, 2, 1)
	for i, x := range []struct {
		name string
		a, b []api.Span
		want int // spans; -1 for ErrLimit
	}{
		{"Union", comb(half, 4, 0), comb(half, 4, 2), api.MaxSpans}, {"Union", comb(half+1, 4, 0), comb(half, 4, 2), -1}, {"Union", comb(api.MaxSpans, 4, 0), comb(api.MaxSpans, 4, 2), -1}, {"Union", nil, long, api.MaxSpans}, {"Union", long, long, api.MaxSpans},
		{"Union", long, s(0, 1), api.MaxSpans}, {"Union", long, s(most-1, most), -1}, {"Union", long, comb(api.MaxSpans, 2, 2), 1}, {"Union", long, s(0, most), 1}, {"Union", comb(api.MaxSpans, 4, 0), append(comb(1, 4, 2), s(100, 106)...), api.MaxSpans},
		{"Meet", s(0, most), long, api.MaxSpans}, {"Meet", long, long, api.MaxSpans}, {"Meet", long, comb(api.MaxSpans, 2, 0), 0},
		{"Meet", append(comb(api.MaxSpans-1, 2, 1), s(10000, 10003)...), s(0, 10001, 10002, most), -1}, {"Meet", append(comb(api.MaxSpans-2, 2, 1), s(10000, 10003)...), s(0, 10001, 10002, most), api.MaxSpans},
		{"Minus", s(1, most), long, api.MaxSpans}, {"Minus", s(0, most), long, -1}, {"Minus", s(0, most), long[1:], api.MaxSpans}, {"Minus", s(0, 2*api.MaxSpans), long, api.MaxSpans}, {"Minus", long, nil, api.MaxSpans}, {"Minus", long, long, 0},
		{"Minus", append(comb(api.MaxSpans-1, 2, 1), s(10000, 10003)...), s(10001, 10002), -1}, {"Minus", append(comb(api.MaxSpans-2, 2, 1), s(10000, 10003)...), s(10001, 10002), api.MaxSpans},
	} {
		got, e := operations()[x.name](x.a, x.b)
		if x.want == -1 && (len(got) != 0 || e != api.ErrLimit) || x.want != -1 && (len(got) != x.want || e != api.OK || !span.Valid(got)) {
			t.Errorf("%d: %s = %d spans, %d, want %d", i, x.name, len(got), e, x.want)
		}
	}
}

// ErrInvalid comes first, also where the other set would be the result, or the limit is exceeded.
func TestSetsOfNoSets(t *testing.T) {
	for name, f := range operations() {
		for i, bad := range notSets() {
			for k, other := range append(notSets(), nil, s(0, 5, 7, 9), s(0, most), comb(api.MaxSpans, 2, 0), comb(api.MaxSpans, 2, 1), comb(api.MaxSpans, 4, 20000)) {
				if got, e := f(bad, other); len(got) != 0 || e != api.ErrInvalid {
					t.Errorf("%s of list %d and %d = %d spans, %d", name, i, k, len(got), e)
				}
				if got, e := f(other, bad); len(got) != 0 || e != api.ErrInvalid {
					t.Errorf("%s of %d and list %d = %d spans, %d", name, k, i, len(got), e)
				}
			}
		}
	}
}

func TestClip(t *testing.T) {
	l := s(2, 4, 7, 10)
	for _, x := range []struct {
		from, to int
		want     []api.Span
	}{
		{3, 8, s(3, 4, 7, 8)}, {2, 10, l}, {2, 4, s(2, 4)}, {3, 4, s(3, 4)}, {7, 10, s(7, 10)}, {8, 9, s(8, 9)}, {9, 10, s(9, 10)}, {1, 3, s(2, 3)}, {5, 8, s(7, 8)},
		// Between the spans, before and behind them.
		{4, 7, nil}, {5, 6, nil}, {0, 2, nil}, {10, 20, nil}, {most, most + 1, nil},
		// Empty ranges.
		{3, 3, nil}, {8, 3, nil}, {10, 2, nil}, {0, 0, nil}, {most, 0, nil}, {math.MaxInt, math.MinInt, nil}, {math.MinInt, math.MinInt, nil}, {math.MaxInt, math.MaxInt, nil}, {4, 3, nil},
		// Beyond the set.
		{0, most, l}, {-1, 100, l}, {math.MinInt, math.MaxInt, l}, {9, math.MaxInt, s(9, 10)}, {math.MinInt, 3, s(2, 3)}, {-9, -3, nil}, {math.MinInt, -1, nil}, {most + 1, math.MaxInt, nil},
	} {
		if got, e := span.Clip(l, x.from, x.to); !slices.Equal(got, x.want) || e != api.OK {
			t.Errorf("Clip from %d to %d = %v, %d, want %v", x.from, x.to, got, e, x.want)
		}
		if got, e := span.Clip(nil, x.from, x.to); len(got) != 0 || e != api.OK {
			t.Errorf("Clip of no spans from %d to %d = %v, %d", x.from, x.to, got, e)
		}
	}
	long := comb(api.MaxSpans, 2, 0)
	if got, e := span.Clip(long, 0, most); !slices.Equal(got, long) || e != api.OK {
		t.Errorf("Clip of a long set = %d spans, %d", len(got), e)
	}
	if got, e := span.Clip(s(0, most), -1, most+1); !slices.Equal(got, s(0, most)) || e != api.OK {
		t.Errorf("Clip of the greatest set = %v, %d", got, e)
	}
}

func TestClipOfSmallSets(t *testing.T) {
	for _, base := range bases() {
		for _, has := range smallSets() {
			l := wantSet(has, base)
			for from := base - 2; from <= base+places+2; from++ {
				for to := base - 2; to <= base+places+2; to++ {
					part := make([]bool, places)
					for k := range part {
						part[k] = has[k] && from <= base+k && base+k < to
					}
					if got, e := span.Clip(l, from, to); !slices.Equal(got, wantSet(part, base)) || e != api.OK {
						t.Fatalf("Clip of %v from %d to %d = %v, %d", l, from, to, got, e)
					}
				}
			}
		}
	}
}

func TestClipOfNoSets(t *testing.T) {
	for i, l := range notSets() {
		for _, x := range s(0, most, 0, 1, 3, 3, 9, 2, math.MinInt, math.MaxInt, -5, -3, most, most+1) {
			if got, e := span.Clip(l, x.From, x.To); len(got) != 0 || e != api.ErrInvalid {
				t.Errorf("Clip of list %d from %d to %d = %d spans, %d", i, x.From, x.To, len(got), e)
			}
		}
	}
}

// The consequences: what Normal returns has one form, and Union, Meet and Minus divide and add up.
func TestLengthsAddUp(t *testing.T) {
	next := mixedNumbers()
	mixedSet := func() []api.Span {
		var l []api.Span
		for range next(40) {
			from := next(most)
			l = append(l, api.Span{From: from, To: min(most, from+next(most/20))})
		}
		set, e := span.Normal(l)
		if back, f := span.Normal(set); e != api.OK || f != api.OK || !span.Valid(set) || !slices.Equal(back, set) {
			t.Fatalf("Normal(%v) = %v, %d, and of this %v, %d", l, set, e, back, f)
		}
		return set
	}
	for range 300 {
		a, b := mixedSet(), mixedSet()
		union, e := span.Union(a, b)
		meet, f := span.Meet(a, b)
		minus, g := span.Minus(a, b)
		if e != api.OK || f != api.OK || g != api.OK || !span.Valid(union) || !span.Valid(meet) || !span.Valid(minus) {
			t.Fatalf("%v and %v: %d, %d, %d", a, b, e, f, g)
		}
		if span.Length(meet)+span.Length(union) != span.Length(a)+span.Length(b) || span.Length(meet)+span.Length(minus) != span.Length(a) {
			t.Fatalf("%v and %v: the lengths do not add up", a, b)
		}
		if back, e := span.Union(meet, minus); !slices.Equal(back, a) || e != api.OK {
			t.Fatalf("Union of Meet and Minus of %v and %v = %v, %d", a, b, back, e)
		}
	}
}

// R2, and the memory of results: nothing is written into an argument, and no result shares memory with one.
func TestMemory(t *testing.T) {
	a, b, mixed := s(1, 4, 6, 9), s(20, 22, 30, 31), s(6, 9, 4, 4, 3, 5, 1, 4)
	set, other, list := slices.Clone(a), slices.Clone(b), slices.Clone(mixed)
	for name, f := range map[string]func() ([]api.Span, api.Errno){
		"Normal":        func() ([]api.Span, api.Errno) { return span.Normal(mixed) },
		"Normal of set": func() ([]api.Span, api.Errno) { return span.Normal(a) },
		"Union":         func() ([]api.Span, api.Errno) { return span.Union(a, b) },
		"Union of one":  func() ([]api.Span, api.Errno) { return span.Union(a, nil) },
		"Union of two":  func() ([]api.Span, api.Errno) { return span.Union(nil, a) },
		"Meet":          func() ([]api.Span, api.Errno) { return span.Meet(a, a) },
		"Minus":         func() ([]api.Span, api.Errno) { return span.Minus(a, b) },
		"Clip":          func() ([]api.Span, api.Errno) { return span.Clip(a, 0, most) },
	} {
		got, e := f()
		if e != api.OK || len(got) == 0 {
			t.Errorf("%s = %v, %d", name, got, e)
		}
		// What is appended in place would be written into an argument that has room for it.
		for i := range got[:cap(got)] {
			got[:cap(got)][i] = api.Span{From: -7, To: -7}
		}
		if !slices.Equal(a, set) || !slices.Equal(b, other) || !slices.Equal(mixed, list) {
			t.Fatalf("%s: arguments were changed: %v, %v, %v", name, a, b, mixed)
		}
	}
}
