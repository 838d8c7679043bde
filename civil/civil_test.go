package civil_test

import (
	"math"
	"testing"

	"pagewatch/api"
	"pagewatch/civil"
)

const (
	firstYear = 1970
	finalYear = 2240
	lastDay   = 98980 // 2240-12-31
)

func date(year, month, day int) api.Date {
	return api.Date{Year: year, Month: month, Day: day}
}

// invalidDates breaks each bound of a date, and overflows each part of it.
func invalidDates() []api.Date {
	return []api.Date{
		{},
		date(1969, 12, 31), date(2241, 1, 1), date(0, 1, 1), date(-1972, 2, 29),
		date(math.MinInt, 1, 1), date(math.MaxInt, 1, 1),
		date(2024, 0, 1), date(2024, 13, 1), date(2024, -1, 1), date(2024, math.MinInt, 1), date(2024, math.MaxInt, 1),
		date(2024, 1, 0), date(2024, 1, -1), date(2024, 1, 32), date(2024, 4, 31), date(2024, 11, 31),
		date(2024, 2, 30), date(2023, 2, 29), date(2100, 2, 29), date(2200, 2, 29),
		date(2024, 1, math.MinInt), date(2024, 1, math.MaxInt),
		date(1969, 13, 0), date(2241, 0, 32),
	}
}

// calendar lists all valid dates, one after the other: the index of a date is its day.
func calendar() []api.Date {
	var all []api.Date
	for year := firstYear; year <= finalYear; year++ {
		for month, length := range []int{31, 28, 31, 30, 31, 30, 31, 31, 30, 31, 30, 31} {
			if month == 1 && (year%400 == 0 || year%100 != 0 && year%4 == 0) {
				length++
			}
			for day := 1; day <= length; day++ {
				all = append(all, date(year, month+1, day))
			}
		}
	}
	return all
}

// P1.1

func TestLeap(t *testing.T) {
	for year, want := range map[int]bool{
		1970: false, 1971: false, 1972: true, 2023: false, 2024: true, 2026: false, 2240: true, 2241: false, 1968: true,
		1900: false, 2100: false, 2200: false, 1600: true, 2000: true, 2400: true,
		0: true, 1: false, -1: false, -2: false, -3: false, -4: true, -100: false, -400: true,
		math.MaxInt: false, math.MinInt: true, // they end in 07 and in 08
	} {
		if got := civil.Leap(year); got != want {
			t.Errorf("Leap(%d) = %t", year, got)
		}
	}
}

func TestDays(t *testing.T) {
	common := []int{0, 31, 28, 31, 30, 31, 30, 31, 31, 30, 31, 30, 31, 0}
	leap := []int{0, 31, 29, 31, 30, 31, 30, 31, 31, 30, 31, 30, 31, 0}
	for year, want := range map[int][]int{
		1970: common, 2023: common, 2100: common, 2024: leap, 2000: leap, 2240: leap,
		1900: common, 1969: common, 2241: common, 1600: leap, 2400: leap, 0: leap, -4: leap, -5: common,
	} {
		for month, n := range want {
			if got := civil.Days(year, month); got != n {
				t.Errorf("Days(%d, %d) = %d, want %d", year, month, got, n)
			}
		}
	}
	for _, month := range []int{-1, -2, -12, 14, 25, math.MinInt, math.MaxInt} {
		if got := civil.Days(2024, month); got != 0 {
			t.Errorf("Days(2024, %d) = %d, want 0", month, got)
		}
	}
}

func TestValid(t *testing.T) {
	for _, d := range []api.Date{
		date(1970, 1, 1), date(2240, 12, 31), date(1970, 12, 31), date(2240, 1, 1),
		date(2024, 2, 29), date(2000, 2, 29), date(2240, 2, 29), date(2023, 2, 28), date(2024, 4, 30),
	} {
		if !civil.Valid(d) {
			t.Errorf("Valid(%v) is false", d)
		}
	}
	for _, d := range invalidDates() {
		if civil.Valid(d) {
			t.Errorf("Valid(%v) is true", d)
		}
	}
}

// P1.2

func TestDayOfKnownDates(t *testing.T) {
	for d, day := range map[api.Date]int{
		date(1970, 1, 1): 0, date(1970, 1, 31): 30, date(1970, 2, 1): 31, date(1970, 12, 31): 364, date(1971, 1, 1): 365,
		date(1972, 2, 29): 789, date(1972, 3, 1): 790, date(1972, 12, 31): 1095, date(1973, 1, 1): 1096,
		date(2000, 2, 29): 11016, date(2000, 3, 1): 11017, date(2026, 3, 29): 20541, date(2240, 12, 31): lastDay,
	} {
		if got, e := civil.Day(d); got != day || e != api.OK {
			t.Errorf("Day(%v) = %d, %d, want %d", d, got, e, day)
		}
		if got, e := civil.DateOf(day); got != d || e != api.OK {
			t.Errorf("DateOf(%d) = %v, %d, want %v", day, got, e, d)
		}
	}
}

func TestDayAndDateOfAreInverse(t *testing.T) {
	all := calendar()
	if len(all) != lastDay+1 {
		t.Fatalf("the calendar has %d days", len(all))
	}
	for day, d := range all {
		if got, e := civil.Day(d); got != day || e != api.OK {
			t.Fatalf("Day(%v) = %d, %d, want %d", d, got, e, day)
		}
		if got, e := civil.DateOf(day); got != d || e != api.OK {
			t.Fatalf("DateOf(%d) = %v, %d, want %v", day, got, e, d)
		}
	}
}

func TestDayOfInvalidDates(t *testing.T) {
	for _, d := range invalidDates() {
		if got, e := civil.Day(d); got != 0 || e != api.ErrRange {
			t.Errorf("Day(%v) = %d, %d", d, got, e)
		}
	}
}

func TestDateOfDaysOutOfRange(t *testing.T) {
	for _, day := range []int{-1, -2, -365, -366, lastDay + 1, lastDay + 2, lastDay + 366, math.MinInt, math.MaxInt} {
		if got, e := civil.DateOf(day); got != (api.Date{}) || e != api.ErrRange {
			t.Errorf("DateOf(%d) = %v, %d", day, got, e)
		}
	}
}

// P1.3

func TestWeekday(t *testing.T) {
	for day, want := range map[int]int{
		0: 3, 1: 4, 2: 5, 3: 6, 4: 0, 5: 1, 6: 2, 7: 3, 11017: 2, 20541: 6, lastDay: 3,
		-1: 2, -2: 1, -3: 0, -4: 6, -5: 5, -6: 4, -7: 3, -8: 2,
		7000003: 6, -7000003: 0,
		math.MaxInt: 3, math.MinInt: 2, // 2^63 - 1 is a multiple of 7
	} {
		if got := civil.Weekday(day); got != want {
			t.Errorf("Weekday(%d) = %d, want %d", day, got, want)
		}
	}
}

func TestWeekdaysFollowEachOther(t *testing.T) {
	want := 3 // a whole number of weeks before day 0 is a Thursday, too
	for day := -7 * 200; day <= lastDay+1000; day++ {
		if got := civil.Weekday(day); got != want {
			t.Fatalf("Weekday(%d) = %d, want %d", day, got, want)
		}
		want = (want + 1) % 7
	}
}

// P1.4

func TestNthOfKnownMonths(t *testing.T) {
	for i, x := range []struct {
		year, month, week, weekday int
		want                       api.Date
	}{
		{2026, 3, 1, 6, date(2026, 3, 1)}, {2026, 3, 4, 6, date(2026, 3, 22)}, {2026, 3, 5, 6, date(2026, 3, 29)},
		{2026, 10, 5, 6, date(2026, 10, 25)}, {2026, 10, 4, 5, date(2026, 10, 24)}, {2026, 10, 5, 5, date(2026, 10, 31)},
		{2026, 2, 4, 6, date(2026, 2, 22)}, {2026, 2, 5, 6, date(2026, 2, 22)},
		{2023, 2, 5, 2, date(2023, 2, 22)}, {2024, 2, 5, 3, date(2024, 2, 29)}, {2024, 2, 5, 2, date(2024, 2, 28)},
		{2026, 1, 1, 3, date(2026, 1, 1)}, {2026, 1, 1, 2, date(2026, 1, 7)}, {2026, 1, 5, 3, date(2026, 1, 29)},
		{1970, 1, 1, 3, date(1970, 1, 1)}, {1970, 1, 1, 2, date(1970, 1, 7)},
		{2240, 12, 5, 3, date(2240, 12, 31)}, {2240, 12, 5, 4, date(2240, 12, 25)},
	} {
		want, _ := civil.Day(x.want)
		if got, e := civil.Nth(x.year, x.month, x.week, x.weekday); got != want || e != api.OK {
			t.Errorf("%d: Nth = %d, %d, want %d", i, got, e, want)
		}
	}
}

func TestNthOfEveryMonth(t *testing.T) {
	found := map[[3]int][]int{} // the days of each weekday of each month
	for day, d := range calendar() {
		key := [3]int{d.Year, d.Month, (day + 3) % 7}
		found[key] = append(found[key], day)
	}
	if len(found) != 271*12*7 {
		t.Fatalf("%d weekdays of months", len(found))
	}
	for key, days := range found {
		for week := 1; week <= 5; week++ {
			want := days[min(week, len(days))-1]
			if got, e := civil.Nth(key[0], key[1], week, key[2]); got != want || e != api.OK {
				t.Fatalf("Nth(%d, %d, %d, %d) = %d, %d, want %d", key[0], key[1], week, key[2], got, e, want)
			}
		}
	}
}

func TestNthOutOfRange(t *testing.T) {
	for _, x := range [][4]int{
		{2026, 3, 0, 6}, {2026, 3, 6, 6}, {2026, 3, -1, 6}, {2026, 3, math.MinInt, 6}, {2026, 3, math.MaxInt, 6},
		{2026, 3, 1, -1}, {2026, 3, 1, 7}, {2026, 3, 5, 7}, {2026, 3, 1, math.MinInt}, {2026, 3, 1, math.MaxInt},
		{2026, 0, 1, 0}, {2026, 13, 1, 0}, {2026, -1, 1, 0}, {2026, math.MinInt, 1, 0}, {2026, math.MaxInt, 1, 0},
		{1969, 12, 5, 2}, {2241, 1, 1, 0}, {0, 1, 1, 0}, {math.MinInt, 1, 1, 0}, {math.MaxInt, 1, 1, 0},
	} {
		if got, e := civil.Nth(x[0], x[1], x[2], x[3]); got != 0 || e != api.ErrRange {
			t.Errorf("Nth(%v) = %d, %d", x, got, e)
		}
	}
}

// P1.5

func TestAddMonthsToKnownDates(t *testing.T) {
	for i, x := range []struct {
		from api.Date
		n    int
		want api.Date
	}{
		{date(2024, 5, 15), 0, date(2024, 5, 15)}, {date(2024, 5, 15), 1, date(2024, 6, 15)}, {date(2024, 5, 15), -1, date(2024, 4, 15)},
		{date(2024, 11, 15), 1, date(2024, 12, 15)}, {date(2024, 12, 15), 1, date(2025, 1, 15)}, {date(2024, 1, 15), -1, date(2023, 12, 15)}, {date(2024, 2, 15), -1, date(2024, 1, 15)},
		{date(2024, 12, 1), 12, date(2025, 12, 1)}, {date(2024, 12, 1), -12, date(2023, 12, 1)}, {date(2024, 1, 1), -24, date(2022, 1, 1)}, {date(2024, 12, 1), 24, date(2026, 12, 1)},
		{date(2024, 1, 31), 1, date(2024, 2, 29)}, {date(2024, 1, 31), 13, date(2025, 2, 28)}, {date(2024, 1, 30), 1, date(2024, 2, 29)}, {date(2024, 1, 29), 1, date(2024, 2, 29)}, {date(2024, 1, 28), 1, date(2024, 2, 28)},
		{date(2024, 3, 31), -1, date(2024, 2, 29)}, {date(2023, 3, 31), -1, date(2023, 2, 28)}, {date(2024, 5, 31), -1, date(2024, 4, 30)}, {date(2024, 1, 31), 2, date(2024, 3, 31)},
		{date(2024, 2, 29), 12, date(2025, 2, 28)}, {date(2024, 2, 29), 48, date(2028, 2, 29)}, {date(2096, 2, 29), 48, date(2100, 2, 28)}, {date(2024, 2, 29), 1, date(2024, 3, 29)},
		{date(1970, 2, 28), -1, date(1970, 1, 28)}, {date(2240, 11, 30), 1, date(2240, 12, 30)},
		{date(1970, 1, 31), 3251, date(2240, 12, 31)}, {date(2240, 12, 31), -3251, date(1970, 1, 31)},
	} {
		if got, e := civil.AddMonths(x.from, x.n); got != x.want || e != api.OK {
			t.Errorf("%d: AddMonths(%v, %d) = %v, %d, want %v", i, x.from, x.n, got, e, x.want)
		}
	}
}

func TestAddMonthsStepByStep(t *testing.T) {
	var months [][]api.Date // the dates of each month, one after the other
	for _, d := range calendar() {
		if d.Day == 1 {
			months = append(months, nil)
		}
		months[len(months)-1] = append(months[len(months)-1], d)
	}
	for from := 0; from < len(months); from += 97 {
		for _, d := range months[from] {
			for to, dates := range months {
				want := dates[min(d.Day, len(dates))-1]
				if got, e := civil.AddMonths(d, to-from); got != want || e != api.OK {
					t.Fatalf("AddMonths(%v, %d) = %v, %d, want %v", d, to-from, got, e, want)
				}
			}
			for _, n := range []int{-from - 1, -from - 2, len(months) - from, len(months) - from + 1} {
				if got, e := civil.AddMonths(d, n); got != (api.Date{}) || e != api.ErrRange {
					t.Fatalf("AddMonths(%v, %d) = %v, %d", d, n, got, e)
				}
			}
		}
	}
}

func TestAddMonthsOutOfRange(t *testing.T) {
	for _, n := range []int{math.MinInt, math.MinInt + 1, math.MinInt/12 - 1, -1 << 62, -1 << 40, -24289, 1 << 40, 1 << 62, math.MaxInt - 24288, math.MaxInt} {
		for _, d := range []api.Date{date(1970, 1, 1), date(2024, 1, 31), date(2240, 12, 31)} {
			if got, e := civil.AddMonths(d, n); got != (api.Date{}) || e != api.ErrRange {
				t.Errorf("AddMonths(%v, %d) = %v, %d", d, n, got, e)
			}
		}
	}
	for _, d := range invalidDates() {
		for _, n := range []int{0, 1, -1, 12, -12, 3000, -3000, math.MinInt, math.MaxInt} {
			if got, e := civil.AddMonths(d, n); got != (api.Date{}) || e != api.ErrRange {
				t.Errorf("AddMonths(%v, %d) = %v, %d", d, n, got, e)
			}
		}
	}
}

// P1.6

func TestWeekOfKnownDates(t *testing.T) {
	for i, x := range []struct {
		d          api.Date
		year, week int
	}{
		{date(1970, 1, 1), 1970, 1}, {date(1970, 1, 4), 1970, 1}, {date(1970, 1, 5), 1970, 2}, {date(1970, 12, 31), 1970, 53},
		{date(1971, 1, 1), 1970, 53}, {date(1971, 1, 3), 1970, 53}, {date(1971, 1, 4), 1971, 1}, {date(1972, 1, 1), 1971, 52},
		{date(2000, 1, 2), 1999, 52}, {date(2000, 1, 3), 2000, 1}, {date(2008, 12, 28), 2008, 52}, {date(2008, 12, 29), 2009, 1}, {date(2010, 1, 3), 2009, 53},
		{date(2018, 12, 31), 2019, 1}, {date(2020, 12, 27), 2020, 52}, {date(2020, 12, 28), 2020, 53}, {date(2021, 1, 3), 2020, 53}, {date(2021, 1, 4), 2021, 1},
		{date(2024, 6, 30), 2024, 26}, {date(2024, 12, 29), 2024, 52}, {date(2024, 12, 30), 2025, 1}, {date(2026, 1, 1), 2026, 1}, {date(2100, 3, 1), 2100, 9},
		{date(2240, 12, 27), 2240, 52}, {date(2240, 12, 30), 2240, 53}, {date(2240, 12, 31), 2240, 53},
	} {
		if year, week, e := civil.Week(x.d); year != x.year || week != x.week || e != api.OK {
			t.Errorf("%d: Week(%v) = %d, %d, %d", i, x.d, year, week, e)
		}
	}
}

func TestWeekOfEveryDate(t *testing.T) {
	all := calendar()
	thursdays := map[int]int{} // how many a year has had
	for monday := -3; monday <= lastDay; monday += 7 {
		year := all[monday+3].Year
		thursdays[year]++
		for day := max(monday, 0); day < min(monday+7, len(all)); day++ {
			gotYear, gotWeek, e := civil.Week(all[day])
			if gotYear != year || gotWeek != thursdays[year] || e != api.OK {
				t.Fatalf("Week(%v) = %d, %d, %d, want %d, %d", all[day], gotYear, gotWeek, e, year, thursdays[year])
			}
		}
	}
	for year, n := range thursdays {
		if n != 52 && n != 53 {
			t.Errorf("%d has %d weeks", year, n)
		}
	}
}

func TestWeekOfInvalidDates(t *testing.T) {
	for _, d := range invalidDates() {
		if year, week, e := civil.Week(d); year != 0 || week != 0 || e != api.ErrRange {
			t.Errorf("Week(%v) = %d, %d, %d", d, year, week, e)
		}
	}
}
