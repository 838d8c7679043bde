package print

import "pagewatch/api"

const hourSeconds = 3600

// line is the tokens of a statement.
type line []api.Token

// begin returns a line that begins with words.
func begin(words ...string) line {
	var l line
	for _, s := range words {
		l = append(l, word(s))
	}
	return l
}

// with returns a line with more tokens, which a function makes of numbers. It may take over the memory of l, which is not used any more.
func (l line) with(token func(n int) api.Token, numbers ...int) line {
	for _, n := range numbers {
		l = append(l, token(n))
	}
	return l
}

func word(s string) api.Token     { return api.Token{Kind: api.TokenWord, Text: s} }
func number(n int) api.Token      { return api.Token{Kind: api.TokenNumber, Num: n} }
func clock(second int) api.Token  { return api.Token{Kind: api.TokenClock, Num: second} }
func date(day int) api.Token      { return api.Token{Kind: api.TokenDate, Num: day} }
func offset(second int) api.Token { return api.Token{Kind: api.TokenOffset, Num: second} }
func instant(at int) api.Token    { return api.Token{Kind: api.TokenInstant, Num: at} }
func hours(seconds int) api.Token { return number(seconds / hourSeconds) }

// month returns the word of a month, from 1 on.
func month(n int) api.Token {
	return word([...]string{"jan", "feb", "mar", "apr", "may", "jun", "jul", "aug", "sep", "oct", "nov", "dec"}[n-1])
}

// ordinal returns the word of an ordinal, from 1 on.
func ordinal(n int) api.Token {
	return word([...]string{"first", "second", "third", "fourth", "last"}[n-1])
}

// weekday returns the word of a weekday, from 0 on.
func weekday(n int) api.Token {
	return word([...]string{"mon", "tue", "wed", "thu", "fri", "sat", "sun"}[n])
}

// unit returns the word of a unit of shifts.
func unit(n int) api.Token {
	return word([...]string{api.UnitHours: "hours", api.UnitDays: "days", api.UnitWeeks: "weeks"}[n])
}
