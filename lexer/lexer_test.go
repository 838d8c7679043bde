package lexer_test

import (
	"fmt"
	"math"
	"slices"
	"strings"
	"testing"

	"pagewatch/api"
	"pagewatch/lexer"
)

const (
	lastDay  = 98980 // 2240-12-31
	day      = 86400
	kinds    = 6
	letters  = "abcdefghijklmnopqrstuvwxyz"
	capitals = "ABCDEFGHIJKLMNOPQRSTUVWXYZ"
	digits   = "0123456789"
)

func word(s string) api.Token { return api.Token{Kind: api.TokenWord, Text: s} }

func number(n int) api.Token { return api.Token{Kind: api.TokenNumber, Num: n} }

func clock(n int) api.Token { return api.Token{Kind: api.TokenClock, Num: n} }

func date(n int) api.Token { return api.Token{Kind: api.TokenDate, Num: n} }

func offset(n int) api.Token { return api.Token{Kind: api.TokenOffset, Num: n} }

func instant(n int) api.Token { return api.Token{Kind: api.TokenInstant, Num: n} }

// long returns a word of n bytes that all bytes of a word appear in.
func long(n int) string {
	all := letters + digits + "-_"
	return "z" + strings.Repeat(all, n/len(all)+1)[:n-1]
}

// mixedNumbers returns a function whose results look random but are the same in every run.
func mixedNumbers(seed uint64) func(n int) int {
	return func(n int) int {
		seed = seed*6364136223846793005 + 1442695040888963407
		return int(seed>>33) % n
	}
}

// mustBeToken checks that a word has a token, and that this token has the shortest word for its text.
func mustBeToken(t *testing.T, s string, want api.Token, shortest string) {
	t.Helper()
	if got, e := lexer.Token(s); got != want || e != api.OK {
		t.Errorf("Token %q: %v %d, not %v", s, got, e, want)
	}
	if got, e := lexer.Text(want); got != shortest || e != api.OK {
		t.Errorf("Text %v: %q %d, not %q", want, got, e, shortest)
	}
	if got, e := lexer.Token(shortest); got != want || e != api.OK {
		t.Errorf("Token of Text %q: %v %d, not %v", shortest, got, e, want)
	}
	if got := lexer.Name(s); got != (want.Kind == api.TokenWord) {
		t.Errorf("Name %q: %v", s, got)
	}
}

// mustBeNone checks that a word is no token.
func mustBeNone(t *testing.T, s string) {
	t.Helper()
	if got, e := lexer.Token(s); got != (api.Token{}) || e != api.ErrText {
		t.Errorf("Token %q: %v %d", s, got, e)
	}
	if lexer.Name(s) {
		t.Errorf("Name %q", s)
	}
}

// mustHaveNoText checks that a token is that of no word.
func mustHaveNoText(t *testing.T, x api.Token) {
	t.Helper()
	if got, e := lexer.Text(x); got != "" || e != api.ErrInvalid {
		t.Errorf("Text %v: %q %d", x, got, e)
	}
}

// P6.1

func TestWords(t *testing.T) {
	for _, s := range []string{
		"a", "z", "m", "ab", "a0", "a9", "z-", "a_", "a-b_9", "x--__", "a1-2", "nobody", "consent", "t", "jan",
		long(api.MaxName), strings.Repeat("a", api.MaxName), "a" + strings.Repeat("0", api.MaxName-1), "a" + strings.Repeat("-", api.MaxName-1),
	} {
		mustBeToken(t, s, word(s), s)
	}
	for _, s := range []string{
		"", long(api.MaxName + 1), strings.Repeat("a", api.MaxName+1), strings.Repeat("a", 1000),
		"1a", "0a", "-a", "_a", "-", "_", "--", "__", "9-", "12a", "1234a", "1_000", "123456789a",
		"A", "Z", "T", "aB", "Ab", "abC", "ABC", "a.b", "a:b", "a,", "a/b", "a+", "+a", "a@", "a`", "a{", "`a", "{a", "a'", "a\"",
		"a#", "#", "#a", "a#b", " ", " a", "a ", "a b", "\ta", "a\n", "a\r", "a\x00", "\x00", "a\x7f", "a\xff", "\xff", "\xc3a",
		"é", "aé", "ä", "ａ", "aａ", "aٱ", "a٣", "a３", "ſ", "aK", "\ufffd", "a\ufffd",
	} {
		mustBeNone(t, s)
	}
}

func TestEachByteOfAWord(t *testing.T) {
	for b := range 256 {
		first := strings.IndexByte(letters, byte(b)) >= 0
		later := first || strings.IndexByte(digits+"-_", byte(b)) >= 0
		for s, want := range map[string]bool{
			string([]byte{byte(b)}): first, string([]byte{byte(b), 'a'}): first,
			string([]byte{'a', byte(b)}): later, string([]byte{'a', byte(b), 'a'}): later,
			long(api.MaxName-1) + string([]byte{byte(b)}): later,
		} {
			got, e := lexer.Token(s)
			if lexer.Name(s) != want || (e == api.OK && got == word(s)) != want {
				t.Errorf("%q: %v %v %d", s, lexer.Name(s), got, e)
			}
		}
	}
}

func TestNumbers(t *testing.T) {
	for s, n := range map[string]int{
		"0": 0, "1": 1, "9": 9, "10": 10, "24": 24, "99": 99, "100": 100, "2026": 2026, "1970": 1970, "12345": 12345,
		"99999999": 99999999, "100000000": 100000000, "999999999": 999999999, "123456789": 123456789,
	} {
		mustBeToken(t, s, number(n), s)
	}
	for _, s := range []string{
		"00", "01", "007", "000000000", "000000001", "012345678", "0000000000", "0123456789", "0999999999",
		"1000000000", "1234567890", "9999999999", "2147483648", "9223372036854775807", "9223372036854775808", "18446744073709551617",
		strings.Repeat("9", 100), strings.Repeat("0", 100), "1" + strings.Repeat("0", 1000),
		"-1", "+1", "-0", "+0", "1.0", "1e3", "0x1", "0b1", "1,000", " 1", "1 ", "1\n", "1#", "٣", "1٣", "３", "1３", "²", "½",
	} {
		mustBeNone(t, s)
	}
}

func TestClocks(t *testing.T) {
	for s, n := range map[string]int{
		"00:00": 0, "00:01": 60, "00:59": 3540, "01:00": 3600, "09:30": 34200, "12:34": 45240, "19:00": 68400, "20:00": 72000, "23:00": 82800, "23:59": 86340, "24:00": 86400,
		"00:00:01": 1, "00:00:59": 59, "00:59:59": 3599, "01:02:03": 3723, "18:00:01": 64801, "23:59:59": 86399,
	} {
		mustBeToken(t, s, clock(n), s)
	}
	for s, short := range map[string]string{"00:00:00": "00:00", "00:01:00": "00:01", "09:30:00": "09:30", "24:00:00": "24:00"} {
		n, _ := lexer.Token(short)
		mustBeToken(t, s, n, short)
	}
	for _, s := range []string{
		"24:00:01", "24:01", "24:01:00", "24:59", "25:00", "25:00:00", "99:00", "23:60", "00:60", "12:60:00", "12:30:60", "00:00:60", "24:00:60", "12:99", "12:00:99",
		"1:00", "9:30", "1:00:00", "001:00", "012:30", "12:3", "12:300", "12:3:00", "12:30:1", "12:30:001", "0:0", "0:00:0",
		"12:", "12::", "12::00", ":30", ":30:00", ":", "::", "12:30:", "12:30:00:", "12:30:00:00", "12:30:0000", "12.30", "12-30", "12:30-00", "12-30:00", "12:30.00",
		"-12:3", "+1:00", "1a:00", "a1:00", "12:a0", "12:0a", "12:00:0a", "12:+1", "12:-1", "12: 1", " 12:30", "12:30 ", "12:30Z", "12:30:00Z", "T12:30:00",
		"12:30#", "12 30", "１２:３０", "12:３", "٣:30", "12：30",
	} {
		mustBeNone(t, s)
	}
}

func TestDates(t *testing.T) {
	for s, n := range map[string]int{
		"1970-01-01": 0, "1970-01-02": 1, "1970-12-31": 364, "1971-01-01": 365, "2000-02-29": 11016, "2024-02-29": 19782, "2026-03-29": 20541,
		"2100-02-28": 47540, "2100-03-01": 47541, "2240-12-30": lastDay - 1, "2240-12-31": lastDay,
	} {
		mustBeToken(t, s, date(n), s)
	}
	for _, s := range []string{
		"1969-12-31", "2241-01-01", "0000-01-01", "0001-01-01", "9999-12-31", "1900-01-01",
		"2023-02-29", "2100-02-29", "2024-02-30", "2026-04-31", "2026-01-32", "2026-01-00", "2026-00-01", "2026-13-01", "2026-00-00", "0000-00-00", "2026-99-99",
		"2026-1-01", "2026-01-1", "2026-001-01", "2026-01-001", "026-01-01", "02026-01-01", "26-01-01", "12026-01-01", "2026-1-001", "2026-001-1",
		"2026-01", "2026-01-", "2026--01", "2026-", "2026--", "2026-0101", "202601-01", "2026-01-01-", "2026-01-01-01", "-2026-01-01", "+2026-01-01",
		"2026/01/01", "2026:01:01", "2026-01:01", "2026.01.01", "2026-0a-01", "2026-a0-01", "2026-01-0a", "202a-01-01", "A026-01-01", "2026-+1-01", "2026-01-+1", "2026- 1-01",
		" 2026-01-01", "2026-01-01 ", "2026-01-01#", "2026-01-01Z", "2026-01-01T", "2026-jan-01", "２０２６-01-01", "2026-01-０1", "2026−01−01",
	} {
		mustBeNone(t, s)
	}
}

func TestOffsets(t *testing.T) {
	for s, n := range map[string]int{
		"+00:00": 0, "+00:01": 60, "-00:01": -60, "+01:00": 3600, "-01:00": -3600, "+05:45": 20700, "-09:30": -34200, "+17:59": 64740, "-17:59": -64740, "+18:00": 64800, "-18:00": -64800,
	} {
		mustBeToken(t, s, offset(n), s)
	}
	mustBeToken(t, "-00:00", offset(0), "+00:00")
	for _, s := range []string{
		"+18:01", "-18:01", "+18:59", "+19:00", "-19:00", "+23:59", "+24:00", "-24:00", "+99:00", "+00:60", "-00:60", "+05:99", "-17:60",
		"+5:00", "-5:00", "+005:00", "+05:0", "+05:000", "+05", "-05", "+0500", "+05:00:00", "-05:00:00", "+00:00:00", "+05:", "+:00", "+:", "+", "-", "++5:00", "+-5:00", "--5:00", "-+5:00", "+05:+1", "+05:-1",
		"05:00+", "*05:00", ",05:00", ".05:00", "~05:00", " 05:00", "+ 5:00", "+05.00", "+05-00", "+05:0a", "+a5:00", "a05:00", "A05:00", ":05:00", "T05:00", "#05:00", "+05:00Z", "+05:00 ", " +05:00",
		"−05:00", "＋05:00", "+０5:0", "+05:０", "±05:0",
	} {
		mustBeNone(t, s)
	}
}

func TestInstants(t *testing.T) {
	for s, n := range map[string]int{
		"1970-01-01T00:00:00Z": 0, "1970-01-01T00:00:01Z": 1, "1970-01-01T00:01:00Z": 60, "1970-01-01T23:59:59Z": 86399, "1970-01-02T00:00:00Z": 86400,
		"2026-03-29T01:00:00Z": 1774746000, "2024-02-29T12:34:56Z": 1709210096, "2240-12-31T00:00:00Z": lastDay * day, "2240-12-31T23:59:59Z": lastDay*day + 86399,
	} {
		mustBeToken(t, s, instant(n), s)
	}
	for _, s := range []string{
		"2026-03-29T24:00:00Z", "2240-12-31T24:00:00Z", "1969-12-31T24:00:00Z", "2026-03-29T24:00:01Z", "2026-03-29T23:59:60Z", "2026-03-29T23:60:00Z", "2026-03-29T25:00:00Z",
		"1969-12-31T23:59:59Z", "2241-01-01T00:00:00Z", "2026-02-30T01:00:00Z", "2023-02-29T00:00:00Z", "2026-00-01T00:00:00Z", "2026-13-01T00:00:00Z", "0000-00-00T00:00:00Z",
		"2026-03-29t01:00:00Z", "2026-03-29T01:00:00z", "2026-03-29t01:00:00z", "2026-03-29Z01:00:00T", "2026-03-29Z01:00:00Z", "2026-03-29T01:00:00T", "2026-03-29 01:00:00Z", "2026-03-29-01:00:00Z", "2026-03-29_01:00:00Z", "2026-03-29T01:00:00A", "2026-03-29S01:00:00Z", "2026-03-29U01:00:00Z", "2026-03-29T01:00:00Y",
		"2026-03-29T01:00:00", "2026-03-29T01:00Z", "2026-03-29T01:00", "2026-03-29T01Z", "2026-03-29TZ", "2026-03-29T", "T01:00:00Z", "T", "Z", "TZ", "1T2Z", "2026T", "2026TZ", "2026T01:00:00Z",
		"2026-03-29T1:00:00Z", "2026-03-29T01:0:00Z", "2026-03-29T01:00:0Z", "2026-3-29T01:00:00Z", "2026-03-9T01:00:00Z", "2026-3-029T01:00:00Z", "2026-03-029T1:00:00Z", "2026-03-29T001:00:0Z", "26-03-29T01:00:00Z", "12026-03-29T01:00:00Z",
		"2026-03-29T01:00:00ZZ", "2026-03-29TT01:00:00Z", "2026-03-29T01:00:00TZ", "2026-03-29T01:00TZ:00Z", "2026-03-29T01:00TZ00", "2026-03-29T01:00:00 Z", "2026-03-29T01:00:00:00Z", "2026-03-29T01:00:00+00:00", "2026-03-29T+01:00:00Z", "2026-03-29T01-00-00Z", "2026:03:29T01:00:00Z",
		" 2026-03-29T01:00:00Z", "2026-03-29T01:00:00Z ", "2026-03-29T01:00:00Z#", "2026-03-29T01:00:0aZ", "2026-03-29T０1:00:Z", "2026-03-29T01:00:００Z",
	} {
		mustBeNone(t, s)
	}
}

// all returns the tokens of all words but TokenWords, numbers and instants, as the definitions list them.
func all() map[string]api.Token {
	words := make(map[string]api.Token, 300000)
	for n := range day + 1 {
		words[fmt.Sprintf("%02d:%02d:%02d", n/3600, n/60%60, n%60)] = clock(n)
	}
	for n := range day/60 + 1 {
		words[fmt.Sprintf("%02d:%02d", n/60, n%60)] = clock(n * 60)
	}
	for n := range 18*60 + 1 {
		words[fmt.Sprintf("+%02d:%02d", n/60, n%60)] = offset(n * 60)
		words[fmt.Sprintf("-%02d:%02d", n/60, n%60)] = offset(-n * 60)
	}
	n := 0
	for year := 1970; year <= 2240; year++ {
		leap := 28
		if year%4 == 0 && year%100 != 0 || year%400 == 0 {
			leap = 29
		}
		for i, length := range []int{31, leap, 31, 30, 31, 30, 31, 31, 30, 31, 30, 31} {
			for d := range length {
				words[fmt.Sprintf("%d-%02d-%02d", year, i+1, d+1)] = date(n)
				n++
			}
		}
	}
	return words
}

// modelToken says what a word is, with all the words that can be listed.
func modelToken(words map[string]api.Token, s string) (api.Token, api.Errno) {
	if x, ok := words[s]; ok {
		return x, api.OK
	}
	if len(s) == 20 && s[10] == 'T' && s[19] == 'Z' {
		d, isDate := words[s[:10]]
		c, isClock := words[s[11:19]]
		if isDate && isClock && c.Num < day {
			return instant(d.Num*day + c.Num), api.OK
		}
	}
	if s != "" && strings.Trim(s, digits) == "" && len(s) <= 9 && (s[0] != '0' || len(s) == 1) {
		n := 0
		for _, b := range []byte(s) {
			n = 10*n + strings.IndexByte(digits, b)
		}
		return number(n), api.OK
	}
	if s != "" && len(s) <= 24 && strings.Contains(letters, s[:1]) && strings.Trim(s, letters+digits+"_-") == "" {
		return word(s), api.OK
	}
	return api.Token{}, api.ErrText
}

func TestAllWordsOfTheDefinitions(t *testing.T) {
	words := all()
	if len(words) != 86401+1441+2*1081+lastDay+1 {
		t.Fatalf("%d words", len(words))
	}
	for s, want := range words {
		got, e := lexer.Token(s)
		if got != want || e != api.OK {
			t.Fatalf("%q: %v %d, not %v", s, got, e, want)
		}
		shortest := s
		if want.Kind == api.TokenClock && len(s) == 8 && want.Num%60 == 0 {
			shortest = s[:5]
		}
		if s == "-00:00" {
			shortest = "+00:00"
		}
		if text, e := lexer.Text(want); text != shortest || e != api.OK {
			t.Fatalf("%v: %q %d, not %q", want, text, e, shortest)
		}
	}
}

func mustBeLikeModel(t *testing.T, words map[string]api.Token, s string) {
	t.Helper()
	want, wantErr := modelToken(words, s)
	got, e := lexer.Token(s)
	if got != want || e != wantErr || lexer.Name(s) != (e == api.OK && want.Kind == api.TokenWord) {
		t.Fatalf("%q: %v %d %v, not %v %d", s, got, e, lexer.Name(s), want, wantErr)
	}
}

func TestAllShortWords(t *testing.T) {
	words := all()
	short := []string{""}
	for range 6 {
		for _, s := range short {
			mustBeLikeModel(t, words, s)
		}
		var longer []string
		for _, s := range short {
			for _, b := range []byte("0268:+-aT") {
				longer = append(longer, s+string(b))
			}
		}
		short = longer
	}
	for _, s := range short {
		mustBeLikeModel(t, words, s)
	}
}

// altered returns a text with a few bytes set, left out, put in or doubled.
func altered(next func(int) int, s string) string {
	const bytes = "0123456789:-+TZtz_a#. \x1f\x7f\xc3"
	b := []byte(s)
	for range next(3) {
		i := next(len(b) + 1)
		other := bytes[next(len(bytes))]
		switch {
		case i < len(b) && next(2) == 0:
			b[i] = other
		case i < len(b) && next(2) == 0:
			b = slices.Delete(b, i, i+1)
		case i < len(b) && next(2) == 0:
			b = slices.Insert(b, i, b[i])
		default:
			b = slices.Insert(b, i, other)
		}
	}
	return string(b)
}

// mixedWord returns a word that has the form of a token, or nearly so.
func mixedWord(next func(int) int) string {
	var s string
	switch next(kinds) {
	case api.TokenWord:
		s = long(1 + next(api.MaxName+3))
	case api.TokenNumber:
		s = fmt.Sprint(next(1 << (1 + next(30))))
	case api.TokenClock:
		s = fmt.Sprintf("%02d:%02d", next(26), next(62))
		if next(2) == 0 {
			s += fmt.Sprintf(":%02d", next(62))
		}
	case api.TokenDate:
		s = fmt.Sprintf("%d-%02d-%02d", 1960+next(290), next(14), next(33))
	case api.TokenOffset:
		s = fmt.Sprintf("%c%02d:%02d", "+-"[next(2)], next(20), next(62))
	default:
		s = fmt.Sprintf("%d-%02d-%02dT%02d:%02d:%02dZ", 1960+next(290), 1+next(12), 1+next(29), next(25), next(61), next(61))
	}
	return s
}

func TestMixedWords(t *testing.T) {
	words, next := all(), mixedNumbers(61)
	var seen [kinds + 1]int
	for range 400000 {
		s := altered(next, mixedWord(next))
		mustBeLikeModel(t, words, s)
		if x, e := lexer.Token(s); e == api.OK {
			seen[x.Kind]++
		} else {
			seen[kinds]++
		}
	}
	if slices.Min(seen[:]) < 4000 {
		t.Errorf("too few words of a kind: %v", seen)
	}
}

// P6.2

func TestLines(t *testing.T) {
	a, b, seven := word("a"), word("b"), number(7)
	for _, x := range []struct {
		text string
		want []api.Token
	}{
		{"", nil}, {" ", nil}, {"      ", nil}, {"#", nil}, {"##", nil}, {" #", nil}, {"# a b", nil}, {"#a", nil}, {"   # a", nil},
		{"a", []api.Token{a}}, {" a", []api.Token{a}}, {"a ", []api.Token{a}}, {"   a   ", []api.Token{a}},
		{"a b", []api.Token{a, b}}, {"a    b", []api.Token{a, b}}, {"  a  7   b  ", []api.Token{a, seven, b}}, {"b a", []api.Token{b, a}}, {"a a a", []api.Token{a, a, a}},
		{"a # b", []api.Token{a}}, {"a #b", []api.Token{a}}, {"a#b", []api.Token{a}}, {"a# b", []api.Token{a}}, {"a#", []api.Token{a}}, {"7#7", []api.Token{seven}}, {"a b#7 # a", []api.Token{a, b}}, {"a ## b # 7", []api.Token{a}},
		{"a # 07 A ! : T", []api.Token{a}}, {"#07", nil}, {"a#A", []api.Token{a}}, {"a # ~ !\"$%&'()*,./;<=>?@[\\]^`{|}", []api.Token{a}},
		{"zone z +01:00", []api.Token{word("zone"), word("z"), offset(3600)}},
		{"rule 2020 2030 mar last sun 02:00 +02:00", []api.Token{word("rule"), number(2020), number(2030), word("mar"), word("last"), word("sun"), clock(7200), offset(7200)}},
		{"days 2026-12-24 2026-12-25", []api.Token{word("days"), date(20811), date(20812)}},
		{"leave ann 1970-01-01T00:00:00Z 1970-01-02T00:00:00Z # sick", []api.Token{word("leave"), word("ann"), instant(0), instant(86400)}},
		{"on mon 00:00 mon 24:00:00", []api.Token{word("on"), word("mon"), clock(0), word("mon"), clock(86400)}},
		{"-00:00 0 a-b", []api.Token{offset(0), number(0), word("a-b")}},
	} {
		if got, e := lexer.Line(x.text); !slices.Equal(got, x.want) || e != api.OK {
			t.Errorf("%q: %v %d, not %v", x.text, got, e, x.want)
		}
	}
}

func TestLengthsOfLines(t *testing.T) {
	full := strings.Repeat("a ", api.MaxLine/2)
	if l, e := lexer.Line(full); len(full) != api.MaxLine || len(l) != api.MaxLine/2 || e != api.OK {
		t.Errorf("%d %d", len(l), e)
	}
	for _, s := range []string{strings.Repeat(" ", api.MaxLine), "#" + strings.Repeat("x", api.MaxLine-1), "a" + strings.Repeat(" ", api.MaxLine-2) + "b"} {
		if _, e := lexer.Line(s); e != api.OK {
			t.Errorf("%q: %d", s, e)
		}
		for _, longer := range []string{s + " ", " " + s, s + "#", s + s, s + "\x00"} {
			if l, e := lexer.Line(longer); len(l) != 0 || e != api.ErrLimit {
				t.Errorf("%q: %v %d", longer, l, e)
			}
		}
	}
}

func TestBytesOfLines(t *testing.T) {
	for b := range 256 {
		s := string([]byte{byte(b)})
		want := api.OK
		if b < 32 || b > 126 {
			want = api.ErrText
		}
		for _, x := range []string{"#" + s, "a #" + s, "a # b " + s + " c", "# " + s + "#", "a#" + s} {
			if l, e := lexer.Line(x); e != want || e != api.OK && len(l) != 0 {
				t.Errorf("%q: %v %d", x, l, e)
			}
		}
		for _, x := range []string{s + "#", "a " + s, s + " a", "a " + s + " # b", "a " + s + " a"} {
			_, isToken := lexer.Token(s)
			want := api.ErrText
			if b == ' ' || b == '#' || isToken == api.OK {
				want = api.OK
			}
			if l, e := lexer.Line(x); e != want || e != api.OK && len(l) != 0 {
				t.Errorf("%q: %v %d", x, l, e)
			}
		}
	}
	for _, s := range []string{"a\tb", "\ta", "a\n", "a\r", "a\r\n", "\n", "a\vb", "a\fb", "a\u00a0b", "a\u2003b", "a\u0085b", "a # é", "é", "# \xff", "a # \x7f", "\x00", "# \x1f", "a b # \u3000"} {
		if l, e := lexer.Line(s); len(l) != 0 || e != api.ErrText {
			t.Errorf("%q: %v %d", s, l, e)
		}
	}
}

func TestErrorsOfLines(t *testing.T) {
	for _, x := range []struct {
		text string
		want api.Errno
	}{
		{"a 07", api.ErrText}, {"07 a", api.ErrText}, {"a A b", api.ErrText}, {"a b C", api.ErrText}, {"A#", api.ErrText}, {"a 24:01 # b", api.ErrText}, {"a :", api.ErrText}, {"- a", api.ErrText}, {"a -", api.ErrText},
		{"a " + long(api.MaxName+1), api.ErrText}, {"a " + long(api.MaxName), api.OK}, {"1234567890", api.ErrText}, {"2023-02-29", api.ErrText},
		{"a \xff 07", api.ErrText}, {"07 # \xff", api.ErrText},
		{"07" + strings.Repeat(" ", api.MaxLine-2), api.ErrText}, {"07" + strings.Repeat(" ", api.MaxLine-1), api.ErrLimit},
		{strings.Repeat("\t", api.MaxLine), api.ErrText}, {strings.Repeat("\t", api.MaxLine+1), api.ErrLimit},
		{"#" + strings.Repeat("é", api.MaxLine/2), api.ErrLimit}, {strings.Repeat("é", api.MaxLine/2), api.ErrText}, {strings.Repeat("é", api.MaxLine), api.ErrLimit},
		{strings.Repeat("A ", api.MaxLine), api.ErrLimit}, {strings.Repeat("a ", 1<<20), api.ErrLimit},
	} {
		if l, e := lexer.Line(x.text); e != x.want || e != api.OK && len(l) != 0 {
			t.Errorf("%.40q: %v %d, not %d", x.text, l, e, x.want)
		}
	}
}

// modelLine says what a line is, byte by byte.
func modelLine(words map[string]api.Token, text string) ([]api.Token, api.Errno) {
	if len(text) > 512 {
		return nil, api.ErrLimit
	}
	var tokens []api.Token
	begin, comment, wrong := 0, false, false
	for i := 0; i <= len(text); i++ {
		end := i == len(text)
		wrong = wrong || !end && (text[i] < 32 || text[i] > 126)
		if end || text[i] == ' ' || text[i] == '#' {
			if x, e := modelToken(words, text[begin:i]); !comment && begin < i && e == api.OK {
				tokens = append(tokens, x)
			} else if !comment && begin < i {
				wrong = true
			}
			begin = i + 1
		}
		comment = comment || !end && text[i] == '#'
	}
	if wrong {
		return nil, api.ErrText
	}
	return tokens, api.OK
}

func TestMixedLines(t *testing.T) {
	words, next := all(), mixedNumbers(62)
	var seen [9]int
	for range 60000 {
		var b strings.Builder
		for range next(8) {
			b.WriteString(strings.Repeat(" ", next(3)))
			s := mixedWord(next)
			if next(40) == 0 {
				s = altered(next, s)
			}
			b.WriteString(s)
			b.WriteString([]string{" ", "  ", " ", "#", "# ", " ", " "}[next(7)])
			if next(60) == 0 {
				b.WriteString(strings.Repeat(" ", 470))
			}
		}
		want, wantErr := modelLine(words, b.String())
		got, e := lexer.Line(b.String())
		if !slices.Equal(got, want) || e != wantErr {
			t.Fatalf("%q: %v %d, not %v %d", b.String(), got, e, want, wantErr)
		}
		seen[e]++
	}
	if seen[api.OK] < 5000 || seen[api.ErrText] < 5000 || seen[api.ErrLimit] < 100 {
		t.Errorf("too few lines of a kind: %v", seen)
	}
}

// P6.3

func TestTokensOfNoWord(t *testing.T) {
	for _, kind := range []int{-1, kinds, kinds + 1, 100, math.MinInt, math.MaxInt} {
		for _, x := range []api.Token{{Kind: kind}, {Kind: kind, Num: 1}, {Kind: kind, Text: "a"}, {Kind: kind, Text: "1", Num: 1}, {Kind: kind, Num: 60}} {
			mustHaveNoText(t, x)
		}
	}
	for _, s := range []string{"", "A", "1", "0", "-a", "_a", "1a", "aB", "a b", "a ", " a", "a#", "#", "12:30", "2026-03-29", "+01:00", "2026-03-29T01:00:00Z", "é", "a\xff", "a\n", long(api.MaxName + 1)} {
		mustHaveNoText(t, word(s))
	}
	for _, n := range []int{1, -1, 60, math.MinInt, math.MaxInt} {
		mustHaveNoText(t, api.Token{Kind: api.TokenWord, Num: n})
		mustHaveNoText(t, api.Token{Kind: api.TokenWord, Text: "a", Num: n})
	}
	for kind := api.TokenNumber; kind < kinds; kind++ {
		for _, n := range []int{0, 60, 3600} {
			if s, e := lexer.Text(api.Token{Kind: kind, Num: n}); s == "" || e != api.OK {
				t.Errorf("kind %d, %d: %q %d", kind, n, s, e)
			}
			for _, s := range []string{"a", " ", "0", "00:00", "+00:00", "1970-01-01"} {
				mustHaveNoText(t, api.Token{Kind: kind, Num: n, Text: s})
			}
		}
	}
}

func TestNumbersOfTokens(t *testing.T) {
	wrong := map[int][]int{
		api.TokenNumber:  {-1, -5, -999999999, 1000000000, 1234567890, 9999999999},
		api.TokenClock:   {-1, -59, -60, -3600, -86400, 86401, 86460, 90000, 172800, 360000, 359999},
		api.TokenDate:    {-1, -365, lastDay + 1, lastDay + 2, lastDay * day, 200000},
		api.TokenOffset:  {1, -1, 59, -59, 61, -61, 3599, 3601, -3601, 64799, 64801, -64801, 64860, -64860, 68400, 86400, -86400, 90000},
		api.TokenInstant: {-1, -60, -86400, -86401, (lastDay + 1) * day, (lastDay+1)*day + 1, api.MaxInstant, api.MaxInstant + 1},
	}
	for kind, numbers := range wrong {
		for _, n := range append(numbers, math.MinInt, math.MinInt+1, math.MinInt+59, math.MaxInt, math.MaxInt-1, math.MinInt/2, math.MaxInt/2, -1<<32, 1<<40, -1<<40) {
			mustHaveNoText(t, api.Token{Kind: kind, Num: n})
		}
	}
	for s, x := range map[string]api.Token{
		"0": number(0), "999999999": number(999999999),
		"00:00": clock(0), "00:00:01": clock(1), "00:00:59": clock(59), "00:01": clock(60), "00:01:01": clock(61), "23:59:59": clock(86399), "24:00": clock(86400),
		"1970-01-01": date(0), "2240-12-31": date(lastDay),
		"+00:00": offset(0), "+00:01": offset(60), "-00:01": offset(-60), "+18:00": offset(64800), "-18:00": offset(-64800),
		"1970-01-01T00:00:00Z": instant(0), "2240-12-31T23:59:59Z": instant((lastDay+1)*day - 1),
	} {
		mustBeToken(t, s, x, s)
	}
}

// Text is the inverse of Token: what it says of a token is that of no other one, and there is a text exactly for the tokens of words.
func TestTextIsInverse(t *testing.T) {
	next := mixedNumbers(63)
	var seen [kinds]int
	for range 300000 {
		x := api.Token{Kind: next(kinds+2) - 1, Num: next(1<<(1+next(31))) - next(100)}
		switch next(6) {
		case 0:
			x.Num *= 60
		case 1:
			x.Num = -x.Num * 60
		case 2:
			x.Num *= next(9)
		}
		if x.Kind == api.TokenWord {
			x.Text, x.Num = altered(next, "ab-9_"), next(30)/29
		}
		s, e := lexer.Text(x)
		if e == api.OK {
			seen[x.Kind]++
			if back, f := lexer.Token(s); back != x || f != api.OK {
				t.Fatalf("%v: %q %v %d", x, s, back, f)
			}
		} else if s != "" || e != api.ErrInvalid || hasWord(x) {
			t.Fatalf("%v: %q %d", x, s, e)
		}
	}
	if slices.Min(seen[:]) < 1000 {
		t.Errorf("too few tokens of a kind: %v", seen)
	}
}

// hasWord says which numbers and texts the tokens of words have.
func hasWord(x api.Token) bool {
	if x.Kind == api.TokenWord {
		return x.Num == 0 && lexer.Name(x.Text)
	}
	from, to, step := 0, -1, 1
	switch x.Kind {
	case api.TokenNumber:
		to = 999999999
	case api.TokenClock:
		to = 86400
	case api.TokenDate:
		to = lastDay
	case api.TokenOffset:
		from, to, step = -64800, 64800, 60
	case api.TokenInstant:
		to = (lastDay+1)*day - 1
	}
	return x.Text == "" && x.Num >= from && x.Num <= to && x.Num%step == 0
}

// mixedToken returns a token of a word.
func mixedToken(next func(int) int) api.Token {
	for {
		if x, e := lexer.Token(mixedWord(next)); e == api.OK {
			return x
		}
	}
}

func TestLinesOfTexts(t *testing.T) {
	next := mixedNumbers(64)
	limits := 0
	for range 30000 {
		var tokens []api.Token
		var texts []string
		for range next(60) {
			x := mixedToken(next)
			s, e := lexer.Text(x)
			if e != api.OK {
				t.Fatalf("%v: %d", x, e)
			}
			tokens, texts = append(tokens, x), append(texts, s)
		}
		line := strings.Join(texts, " ")
		want := api.OK
		if len(line) > api.MaxLine {
			tokens, want = nil, api.ErrLimit
			limits++
		}
		if got, e := lexer.Line(line); !slices.Equal(got, tokens) || e != want {
			t.Fatalf("%q: %v %d", line, got, e)
		}
	}
	if limits < 1000 || limits > 29000 {
		t.Errorf("%d lines are too long", limits)
	}
}

// R6

func TestResultsStay(t *testing.T) {
	const text = "a 7 12:30 b # c"
	first, _ := lexer.Line(text)
	want := slices.Clone(first)
	second, _ := lexer.Line(text)
	second[0] = number(1)
	if third, e := lexer.Line(text); !slices.Equal(first, want) || !slices.Equal(third, want) || e != api.OK {
		t.Errorf("%v %v", first, third)
	}
}
