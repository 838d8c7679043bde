package syntax_test

import (
	"math"
	"reflect"
	"regexp"
	"slices"
	"strconv"
	"strings"
	"testing"

	"pagewatch/api"
	"pagewatch/lexer"
	"pagewatch/syntax"
)

const (
	bytesOfText = 65536
	bytesOfLine = 512
)

// chapter is the table of the chapter: the forms of statements.
const chapter = `zone WORD OFFSET
rule NUMBER NUMBER WORD WORD WORD CLOCK OFFSET
person WORD WORD [week NUMBER] [rest NUMBER] [consent]
quiet WORD CLOCK WORD CLOCK
calendar WORD WORD
days DATE+
schedule WORD
layer WORD WORD DATE CLOCK NUMBER WORD
member WORD+
on WORD CLOCK WORD CLOCK
not WORD
only WORD
leave WORD INSTANT INSTANT
override WORD INSTANT INSTANT
swap WORD WORD INSTANT INSTANT`

// plain has a line of each form, with every option and with no token more than once where one is enough.
const plain = `zone z +01:00
rule 2020 2030 mar last sun 02:00 +02:00
person ann z
person ann z week 40
person ann z rest 11
person ann z consent
person ann z week 40 rest 11
person ann z week 40 consent
person ann z rest 11 consent
person ann z week 40 rest 11 consent
quiet mon 22:00 tue 06:00
calendar c z
days 2026-01-01
days 2026-01-01 2026-01-02
days 2026-01-01 2025-01-01 2026-01-01 1970-01-01
schedule a
layer l z 2026-01-05 09:00 1 weeks
member a
member a b
member a b a member
on mon 09:00 fri 17:00
not c
only c
leave a 2026-01-01T00:00:00Z 2026-01-02T00:00:00Z
override nobody 2026-01-01T00:00:00Z 2026-01-02T00:00:00Z
swap a b 2026-01-01T00:00:00Z 2026-01-02T00:00:00Z
`

// mixedNumbers returns a function whose results look random but are the same in every run.
func mixedNumbers(seed uint64) func(n int) int {
	return func(n int) int {
		seed = seed*6364136223846793005 + 1442695040888963407
		return int(seed>>33) % n
	}
}

// lines returns the lines of a text, without their ends.
func lines(text string) []string {
	return strings.Split(strings.TrimSuffix(text, "\n"), "\n")
}

// tokens returns the tokens of a line that has no errors.
func tokens(t *testing.T, line string) []api.Token {
	t.Helper()
	l, e := lexer.Line(line)
	if e != api.OK {
		t.Fatalf("%q: %d", line, e)
	}
	return l
}

// word returns a token of the kind of words, also for texts that are no words.
func word(text string) api.Token { return api.Token{Kind: api.TokenWord, Text: text} }

// coded returns tokens as a text without ambiguities: the kind of each, and the text of words.
func coded(l []api.Token) string {
	var b strings.Builder
	for _, t := range l {
		switch t.Kind {
		case api.TokenWord:
			b.WriteString("W" + strconv.Quote(t.Text))
		case api.TokenNumber:
			b.WriteString("N")
		case api.TokenClock:
			b.WriteString("C")
		case api.TokenDate:
			b.WriteString("D")
		case api.TokenOffset:
			b.WriteString("O")
		case api.TokenInstant:
			b.WriteString("I")
		default:
			b.WriteString("?")
		}
		b.WriteString(" ")
	}
	return b.String()
}

// modelForms returns an expression that matches the coded tokens of statements, made of the table of the chapter.
func modelForms() *regexp.Regexp {
	codes := map[string]string{"WORD": `W"(?:[^"\\]|\\.)*" `, "NUMBER": "N ", "CLOCK": "C ", "DATE": "D ", "OFFSET": "O ", "INSTANT": "I "}
	var forms []string
	for _, line := range lines(chapter) {
		form := ""
		for _, s := range strings.Fields(line) {
			name := strings.Trim(s, "[]+")
			code, ok := codes[name]
			if !ok {
				code = `W"` + name + `" `
			}
			code = "(?:" + code + ")"
			if strings.HasPrefix(s, "[") {
				code = "(?:" + code
			}
			if strings.HasSuffix(s, "]") {
				code += ")?"
			}
			if strings.HasSuffix(s, "+") {
				code += "+"
			}
			form += code
		}
		forms = append(forms, form)
	}
	return regexp.MustCompile("^(?:" + strings.Join(forms, "|") + ")$")
}

// samples returns a token of each kind, each keyword and option, and tokens that are those of no word.
func samples() []api.Token {
	l := []api.Token{
		word("a"), word("x-1"), word("nobody"), word("weeks"), word("zones"), word("Zone"), word("ZONE"), word(""), word("A B"), word("zone z"), word("schedule "), word("\"\\\xff"),
		{Kind: api.TokenNumber}, {Kind: api.TokenNumber, Num: 40}, {Kind: api.TokenNumber, Num: -1}, {Kind: api.TokenNumber, Text: "schedule"}, {Kind: api.TokenNumber, Text: "consent"},
		{Kind: api.TokenClock, Num: 7200}, {Kind: api.TokenClock, Num: 100000}, {Kind: api.TokenDate, Num: 5}, {Kind: api.TokenDate, Num: -5}, {Kind: api.TokenDate, Text: "days"},
		{Kind: api.TokenOffset, Num: 60}, {Kind: api.TokenOffset, Num: 1}, {Kind: api.TokenInstant, Num: 9}, {Kind: api.TokenInstant, Num: math.MaxInt}, {Kind: api.TokenInstant, Text: "member"},
		{Kind: -1}, {Kind: 6}, {Kind: 7, Text: "a"}, {Kind: -1, Text: "schedule"}, {Kind: 6, Text: "days"}, {Kind: math.MinInt, Text: "member"}, {Kind: math.MaxInt, Text: "consent", Num: 1},
	}
	for _, s := range []string{"week", "rest", "consent", "zone", "rule", "person", "quiet", "calendar", "days", "schedule", "layer", "member", "on", "not", "only", "leave", "override", "swap"} {
		l = append(l, word(s))
	}
	return l
}

// P7.1

func TestForms(t *testing.T) {
	for _, s := range lines(plain) {
		if !syntax.Form(tokens(t, s)) {
			t.Error(s)
		}
	}
	for _, s := range []string{
		"rule 1 2 x y z 24:00 -18:00", "rule 0 999999999 zone zone zone 00:00 +00:00", "rule 2030 2020 sun mar first 02:00:01 -00:00",
		"person week rest", "person week week week 0", "person rest rest rest 0", "person consent consent consent", "person person person week 0 rest 0 consent", "person week consent",
		"quiet jan 22:00 x 22:00", "layer l z 2026-01-05 24:00:00 0 years", "layer layer layer 1970-01-01 00:00 999999999 layer",
		"zone zone -18:00", "calendar calendar calendar", "schedule schedule", "member member", "member consent week", "not not", "only only", "not nobody", "on on 00:00 on 00:00",
		"leave nobody 2026-01-02T00:00:00Z 2026-01-01T00:00:00Z", "override a 1970-01-01T00:00:00Z 1970-01-01T00:00:00Z", "swap a a 1970-01-01T00:00:00Z 2240-12-31T23:59:59Z", "swap nobody swap 1970-01-01T00:00:00Z 1970-01-01T00:00:00Z",
		"member " + strings.Repeat("a ", 252), "days " + strings.Repeat("2026-01-01 ", 45),
	} {
		if !syntax.Form(tokens(t, s)) {
			t.Error(s)
		}
	}
	for _, s := range []string{
		"", "x", "7", "12:30", "2026-01-01", "+01:00", "2026-01-01T00:00:00Z", "consent", "week 40", "rest 11", "nobody", "jan", "mon", "first",
		"zones z +01:00", "zon z +01:00", "z +01:00", "zone-z +01:00", "x z +01:00", "+01:00 z zone", "z zone +01:00", "a schedule", "a member", "timezone z +01:00", "members a", "day 2026-01-01", "person", "for a",
		"zone z", "zone +01:00", "zone", "zone z 01:00", "zone z z", "zone 7 +01:00", "zone z +01:00 z", "zone z +01:00 +01:00", "zone z z +01:00", "zone z +01:00 consent",
		"person ann", "person ann 7", "person 7 ann", "person ann z x", "person ann z 40", "person ann z 40 week", "person ann z x 40",
		"days", "member", "schedule", "not", "only", "schedule 1", "schedule a b", "not c d", "only c d", "not 2026-01-01", "only 1",
		"schedule a schedule b", "zone z +01:00 zone y +02:00", "calendar c", "calendar c z z", "layer l z 2026-01-05 09:00 weeks", "layer l z 2026-01-05 09:00 1", "layer l z 2026-01-05T09:00:00Z 1 weeks", "layer l z 09:00 2026-01-05 1 weeks", "layer l z 2026-01-05 09:00 weeks 1",
		"on mon 09:00", "on mon 09:00 fri", "on mon 09:00 fri 17:00 x", "on mon fri 09:00 17:00", "on mon 09:00 fri 17:00 on", "quiet mon 22:00 tue 06:00 wed 22:00",
		"leave a 2026-01-01T00:00:00Z", "leave a 2026-01-01 2026-01-02", "leave a b 2026-01-01T00:00:00Z 2026-01-02T00:00:00Z", "swap a 2026-01-01T00:00:00Z 2026-01-02T00:00:00Z", "swap a b c 2026-01-01T00:00:00Z 2026-01-02T00:00:00Z", "override 2026-01-01T00:00:00Z 2026-01-02T00:00:00Z", "override a 2026-01-01T00:00:00Z 2026-01-02T00:00:00Z 2026-01-03T00:00:00Z",
	} {
		if syntax.Form(tokens(t, s)) {
			t.Error(s)
		}
	}
	if syntax.Form(nil) || syntax.Form([]api.Token{}) || syntax.Form([]api.Token{{}}) {
		t.Error("no tokens, or an empty one")
	}
}

func TestOptionsOfPersons(t *testing.T) {
	for s, want := range map[string]bool{
		"": true, "week 40": true, "rest 11": true, "consent": true, "week 40 rest 11": true, "week 40 consent": true, "rest 11 consent": true, "week 40 rest 11 consent": true, "week 0 rest 0": true, "week 999999999": true,
		"rest 11 week 40": false, "consent week 40": false, "consent rest 11": false, "week 40 consent rest 11": false, "rest 11 week 40 consent": false, "rest 11 consent week 40": false, "consent week 40 rest 11": false, "consent rest 11 week 40": false,
		"week 40 week 40": false, "rest 11 rest 11": false, "consent consent": false, "week 40 rest 11 rest 11": false, "week 40 rest 11 consent consent": false, "week 40 rest 11 week 40": false, "week 40 week 40 consent": false, "rest 11 rest 11 consent": false, "week 40 rest 11 consent week 40": false,
		"week": false, "rest": false, "week consent": false, "rest consent": false, "week rest 11": false, "week rest": false, "week 40 rest": false, "week 40 rest consent": false, "rest week": false, "week week": false, "week week 40": false,
		"week x": false, "rest x": false, "week 12:00": false, "rest 12:00": false, "week 2026-01-01": false, "rest +01:00": false, "consent 1": false, "consent x": false, "week 40 40": false, "rest 11 11": false, "week 40 x": false, "rest 11 x": false, "week 40 rest 11 x": false, "week 40 rest 11 consent x": false, "week 40 rest 11 consent 1": false,
		"40": false, "11": false, "x": false, "40 week": false, "weeks 40": false, "rests 11": false, "consents": false, "weekend 40": false, "x 40": false,
	} {
		if got := syntax.Form(tokens(t, "person ann z "+s)); got != want {
			t.Errorf("%q: %v", s, got)
		}
		if s != "" && syntax.Form(tokens(t, s)) {
			t.Errorf("%q alone", s)
		}
		if s != "" && (syntax.Form(tokens(t, "person ann "+s+" z")) || syntax.Form(tokens(t, "calendar ann z "+s))) {
			t.Errorf("%q elsewhere", s)
		}
	}
}

// In each form, a token is left out, added, replaced, exchanged with the one behind it, or the last ones are cut off.
func TestAlteredForms(t *testing.T) {
	model, all := modelForms(), samples()
	check := func(l []api.Token) {
		t.Helper()
		if got, want := syntax.Form(l), model.MatchString(coded(l)); got != want {
			t.Errorf("%v: %v", l, got)
		}
	}
	for _, line := range lines(plain) {
		l := tokens(t, line)
		if !model.MatchString(coded(l)) {
			t.Errorf("the model does not match %s", line)
		}
		for i := range l {
			check(l[:i])
			check(l[i:])
			check(slices.Delete(slices.Clone(l), i, i+1))
			check(slices.Insert(slices.Clone(l), i, l[i]))
			for _, x := range all {
				other := slices.Clone(l)
				other[i] = x
				check(other)
				check(slices.Insert(slices.Clone(l), i, x))
			}
			if i > 0 {
				other := slices.Clone(l)
				other[i-1], other[i] = l[i], l[i-1]
				check(other)
			}
		}
		for _, x := range all {
			check(append(slices.Clone(l), x))
			check(append(slices.Clone(l), x, x))
			for _, y := range all {
				check(append(slices.Clone(l), x, y))
			}
		}
		check(append(slices.Clone(l), l...))
	}
}

func TestAllShortTokens(t *testing.T) {
	model, all := modelForms(), samples()
	var seen [2]int
	for _, x := range all {
		for _, y := range all {
			for _, z := range all {
				for _, l := range [][]api.Token{{x}, {x, y}, {x, y, z}} {
					got, want := syntax.Form(l), model.MatchString(coded(l))
					if got != want {
						t.Fatalf("%v: %v", l, got)
					}
					if got {
						seen[len(l)/3]++
					}
				}
			}
		}
	}
	if seen[0] < 100 || seen[1] < 100 {
		t.Errorf("too few statements: %v", seen)
	}
}

// All tokens behind a person that are made of the options.
func TestAllOptions(t *testing.T) {
	model := modelForms()
	parts := tokens(t, "week rest consent x 40")
	found := 0
	var add func(l []api.Token)
	add = func(l []api.Token) {
		got, want := syntax.Form(l), model.MatchString(coded(l))
		if got != want {
			t.Errorf("%v: %v", l, got)
		}
		if got {
			found++
		}
		if len(l) < 9 {
			for _, x := range parts {
				add(append(slices.Clone(l), x))
			}
		}
	}
	add(tokens(t, "person ann z"))
	if found != 8 {
		t.Errorf("%d statements", found)
	}
}

func TestTokensOfNoWord(t *testing.T) {
	for _, kind := range []int{-1, 6, 7, 100, math.MinInt, math.MaxInt} {
		for _, l := range [][]api.Token{
			{{Kind: kind, Text: "schedule"}, word("a")}, {word("schedule"), {Kind: kind, Text: "a"}}, {word("member"), word("a"), {Kind: kind, Text: "a"}}, {word("member"), {Kind: kind, Text: "a"}, word("a")},
			{word("days"), {Kind: kind}}, {word("days"), {Kind: api.TokenDate}, {Kind: kind}}, {word("days"), {Kind: api.TokenDate}, {Kind: kind}, {Kind: api.TokenDate}},
			{word("person"), word("a"), word("z"), {Kind: kind, Text: "consent"}}, {word("person"), word("a"), word("z"), word("week"), {Kind: kind, Num: 1}}, {word("person"), word("a"), word("z"), {Kind: kind, Text: "rest"}, {Kind: api.TokenNumber}},
			{word("zone"), word("z"), {Kind: kind}}, {{Kind: kind}}, {{Kind: kind, Text: "zone"}},
		} {
			if syntax.Form(l) {
				t.Error(l)
			}
		}
	}
	// Only the kinds of the tokens that are not literal count.
	for _, l := range [][]api.Token{
		{word("schedule"), word("")}, {word("schedule"), word("A B")}, {word("schedule"), word("\xff\x00")}, {word("schedule"), word(strings.Repeat("a", 1000))}, {word("schedule"), {Text: "a", Num: 5}},
		{word("member"), word(""), word("#"), word(" ")}, {word("days"), {Kind: api.TokenDate, Num: math.MinInt}, {Kind: api.TokenDate, Num: math.MaxInt}, {Kind: api.TokenDate, Text: "x"}},
		{word("zone"), word("Z"), {Kind: api.TokenOffset, Num: 1}}, {word("zone"), word("z"), {Kind: api.TokenOffset, Num: math.MinInt}},
		{word("person"), word(""), word(""), word("week"), {Kind: api.TokenNumber, Num: -1}, word("rest"), {Kind: api.TokenNumber, Num: math.MaxInt}, word("consent")},
		{word("leave"), word("A"), {Kind: api.TokenInstant, Num: -1}, {Kind: api.TokenInstant, Num: math.MaxInt}}, {word("on"), word("Monday"), {Kind: api.TokenClock, Num: -1}, word(""), {Kind: api.TokenClock, Num: math.MaxInt}},
	} {
		if !syntax.Form(l) {
			t.Error(l)
		}
	}
}

func TestManyTokens(t *testing.T) {
	for _, n := range []int{1, 2, 12, 64, 1000, 100000} {
		for _, x := range []struct {
			keyword string
			kind    int
		}{{"member", api.TokenWord}, {"days", api.TokenDate}} {
			l := make([]api.Token, n+1)
			for i := range l {
				l[i] = api.Token{Kind: x.kind}
			}
			l[0] = word(x.keyword)
			if !syntax.Form(l) {
				t.Errorf("%s with %d tokens", x.keyword, n)
			}
			l[n].Kind = api.TokenNumber
			if syntax.Form(l) {
				t.Errorf("%s with %d tokens, the last of which is a number", x.keyword, n)
			}
		}
	}
}

// P7.2

// statement returns a statement that has the tokens of a line.
func statement(t *testing.T, number int, line string) api.Statement {
	t.Helper()
	return api.Statement{Line: number, Tokens: tokens(t, line)}
}

// sameStatements reports whether two lists have the same lines with the same tokens.
func sameStatements(a, b []api.Statement) bool {
	return slices.EqualFunc(a, b, func(x, y api.Statement) bool { return x.Line == y.Line && slices.Equal(x.Tokens, y.Tokens) })
}

func TestTexts(t *testing.T) {
	first, second := statement(t, 1, "schedule a"), statement(t, 2, "member b")
	for _, x := range []struct {
		text string
		want []api.Statement
	}{
		{"", nil}, {"\n", nil}, {"\n\n\n", nil}, {" ", nil}, {" \n", nil}, {"   \n  \n ", nil}, {"#", nil}, {"# x\n", nil}, {"  # x\n#\n## zone\n", nil}, {"#\n# 07 A !", nil},
		{"schedule a", []api.Statement{first}}, {"schedule a\n", []api.Statement{first}}, {"schedule a\n\n", []api.Statement{first}}, {"schedule a\n ", []api.Statement{first}}, {"schedule a\n#", []api.Statement{first}}, {"  schedule   a  # b\n", []api.Statement{first}}, {"schedule a#", []api.Statement{first}},
		{"schedule a\nmember b", []api.Statement{first, second}}, {"schedule a\nmember b\n", []api.Statement{first, second}},
		{"\nmember b", []api.Statement{second}}, {" \nmember b\n", []api.Statement{second}}, {"# schedule a\nmember b\n\n", []api.Statement{second}}, {"#\n member b # c", []api.Statement{second}},
		{"\n\n\nnot a\n\n \n#\nonly a\n", []api.Statement{statement(t, 4, "not a"), statement(t, 8, "only a")}},
		{"# x\nzone z +01:00", []api.Statement{statement(t, 2, "zone z +01:00")}},
		{"schedule a\nschedule a\nschedule a", []api.Statement{first, statement(t, 2, "schedule a"), statement(t, 3, "schedule a")}},
		{"only b\nschedule a\nzone z -00:00\n", []api.Statement{statement(t, 1, "only b"), statement(t, 2, "schedule a"), statement(t, 3, "zone z +00:00")}},
	} {
		if l, line, e := syntax.Parse(x.text); !sameStatements(l, x.want) || line != 0 || e != api.OK {
			t.Errorf("%q: %v %d %d", x.text, l, line, e)
		}
	}
	l, line, e := syntax.Parse(plain)
	if len(l) != len(lines(plain)) || line != 0 || e != api.OK {
		t.Fatal(len(l), line, e)
	}
	for i, s := range lines(plain) {
		if l[i].Line != i+1 || !slices.Equal(l[i].Tokens, tokens(t, s)) {
			t.Errorf("%d: %v", i, l[i])
		}
	}
}

func TestWrongLines(t *testing.T) {
	wide := strings.Repeat(" ", bytesOfLine+1)
	for _, wrong := range []struct {
		text string
		e    api.Errno
	}{
		{"schedule", api.ErrText}, {"schedule a b", api.ErrText}, {"Schedule a", api.ErrText}, {"SCHEDULE a", api.ErrText}, {"schedule A", api.ErrText}, {"schedule 07", api.ErrText}, {"x", api.ErrText}, {"7", api.ErrText}, {"days", api.ErrText}, {"days 2023-02-29", api.ErrText}, {"member a 1", api.ErrText}, {"person a z week", api.ErrText}, {"zone z +19:00", api.ErrText}, {"a#", api.ErrText}, {"schedule # a", api.ErrText},
		{"schedule a\r", api.ErrText}, {"\r", api.ErrText}, {"# \r", api.ErrText}, {"schedule\ta", api.ErrText}, {"\t", api.ErrText}, {"#\t", api.ErrText}, {"schedule a # \xff", api.ErrText}, {"é", api.ErrText}, {"# é", api.ErrText}, {"\x00", api.ErrText}, {"schedule a\x00", api.ErrText}, {"\x7f", api.ErrText}, {"schedule a\v", api.ErrText}, {"schedule\u00a0a", api.ErrText}, {"schedule a\u2028schedule b", api.ErrText}, {"schedule a\rschedule b", api.ErrText}, {"schedule a\fschedule b", api.ErrText},
		{wide, api.ErrLimit}, {"#" + wide, api.ErrLimit}, {"schedule a" + wide, api.ErrLimit}, {"x" + wide, api.ErrLimit}, {wide + "\xff", api.ErrLimit}, {strings.Repeat("\t", bytesOfLine), api.ErrText},
	} {
		for _, x := range []struct {
			text string
			line int
		}{
			{wrong.text, 1}, {wrong.text + "\n", 1}, {wrong.text + "\nschedule a\n", 1}, {wrong.text + "\n\n\n", 1}, {"\n" + wrong.text, 2}, {"schedule a\n" + wrong.text, 2}, {"schedule a\n" + wrong.text + "\n", 2}, {"# a\n \n" + wrong.text + "\nschedule a", 3}, {"schedule a\nschedule b\n" + wrong.text + "\n", 3}, {"\n\n\n\n\n\n\n\n\nschedule a\n" + wrong.text, 11},
			{plain + wrong.text + "\n" + plain, len(lines(plain)) + 1},
			{wrong.text + "\nx\n" + wide, 1}, {wrong.text + "\n" + wide + "\nx", 1}, {"\n" + wrong.text + "\n\xff", 2}, {"not a\n\n" + wrong.text + "\n" + wrong.text + "\n" + wrong.text, 3},
		} {
			if l, line, e := syntax.Parse(x.text); len(l) != 0 || line != x.line || e != wrong.e {
				t.Errorf("%q: %v %d %d, not line %d", x.text, l, line, e, x.line)
			}
		}
		for _, x := range []string{wrong.text, "schedule a\n" + wrong.text} {
			x += "\n" + strings.Repeat("\n", bytesOfText)
			if l, line, e := syntax.Parse(x); len(l) != 0 || line != 0 || e != api.ErrLimit {
				t.Errorf("%.40q and more: %v %d %d", x, l, line, e)
			}
		}
	}
}

func TestBytesOfTexts(t *testing.T) {
	check := func(text string, ok bool) {
		t.Helper()
		want, wantLine := api.OK, 0
		if !ok {
			want, wantLine = api.ErrText, 3
		}
		if l, line, e := syntax.Parse(text); line != wantLine || e != want || (e == api.OK) != (len(l) > 0) {
			t.Errorf("%q: %v %d %d", text, l, line, e)
		}
	}
	for b := range 256 {
		s := string([]byte{byte(b)})
		printable := b == '\n' || b >= 32 && b <= 126
		check("not a\n\nonly b # "+s, printable)
		check("not a\n\nonly b # "+s+"\n", printable)
		check("not a\n\n#"+s+"# c\nonly b", printable)
		check("not a\nonly b\nonly"+s+"c", b == ' ')
		check("not a\n\n"+s+"only b", b == '\n' || b == ' ' || b == '#')
		check("not a\n\nonly b"+s, b == '\n' || lexer.Name("b"+s) || b == ' ' || b == '#')
	}
}

func TestLengthsOfLines(t *testing.T) {
	for _, s := range []string{"", "#", "schedule a", "schedule a#", "member " + strings.Repeat("a ", 250) + "b"} {
		for _, before := range []string{"", "\n", "not a\nonly b\n", "#\n\n\n"} {
			for _, after := range []string{"", "\n", "\nschedule b\n", "\nx"} {
				full := s + strings.Repeat(" ", bytesOfLine-len(s))
				number := strings.Count(before, "\n") + 1
				wantLine, want := 0, api.OK
				if after == "\nx" {
					wantLine, want = number+1, api.ErrText
				}
				if _, line, e := syntax.Parse(before + full + after); line != wantLine || e != want {
					t.Errorf("%q: %d %d", before+full+after, line, e)
				}
				if l, line, e := syntax.Parse(before + full + " " + after); len(l) != 0 || line != number || e != api.ErrLimit {
					t.Errorf("%q: %v %d %d", before+full+" "+after, l, line, e)
				}
			}
		}
	}
}

func TestLengthsOfTexts(t *testing.T) {
	fill := func(s string) string {
		return s + strings.Repeat("\n", bytesOfText-len(s))
	}
	for _, x := range []struct {
		text string
		n    int
	}{
		{fill(""), 0}, {fill(plain), len(lines(plain))}, {strings.Repeat("not ab\n", bytesOfText/7) + "\n\n", bytesOfText / 7}, {strings.Repeat("member b\n#-----\n", bytesOfText/16), bytesOfText / 16}, {strings.Repeat(strings.Repeat(" ", 511)+"\n", 128), 0}, {fill(plain)[len(plain):] + plain, len(lines(plain))}, {strings.Repeat("\n", bytesOfText-len("only a")) + "only a", 1},
	} {
		l, line, e := syntax.Parse(x.text)
		if len(x.text) != bytesOfText || len(l) != x.n || line != 0 || e != api.OK {
			t.Errorf("%.40q: %d bytes, %d %d %d", x.text, len(x.text), len(l), line, e)
		}
		for _, longer := range []string{x.text + "\n", x.text + " ", x.text + "x", "\n" + x.text, x.text + x.text, "\xff" + x.text, x.text + "\x00"} {
			if l, line, e := syntax.Parse(longer); len(l) != 0 || line != 0 || e != api.ErrLimit {
				t.Errorf("%.40q: %d bytes, %v %d %d", longer, len(longer), l, line, e)
			}
		}
	}
	last := strings.Repeat("\n", bytesOfText-len("only a"))
	if l, line, e := syntax.Parse(last + "only a"); len(l) != 1 || l[0].Line != bytesOfText-5 || line != 0 || e != api.OK {
		t.Errorf("%v %d %d", l, line, e)
	}
	if l, line, e := syntax.Parse(last + "only A"); len(l) != 0 || line != bytesOfText-5 || e != api.ErrText {
		t.Errorf("%v %d %d", l, line, e)
	}
	if l, line, e := syntax.Parse(strings.Repeat("\n", bytesOfText-1) + "x"); len(l) != 0 || line != bytesOfText || e != api.ErrText {
		t.Errorf("%v %d %d", l, line, e)
	}
	for _, s := range []string{strings.Repeat(" ", bytesOfText), strings.Repeat("x", bytesOfText)} {
		if l, line, e := syntax.Parse(s); len(l) != 0 || line != 1 || e != api.ErrLimit {
			t.Errorf("%v %d %d", l, line, e)
		}
		if l, line, e := syntax.Parse(s + s); len(l) != 0 || line != 0 || e != api.ErrLimit {
			t.Errorf("%v %d %d", l, line, e)
		}
	}
}

// modelParse goes through a text byte by byte.
func modelParse(model *regexp.Regexp, text string) ([]api.Statement, int, api.Errno) {
	if len(text) > bytesOfText {
		return nil, 0, api.ErrLimit
	}
	var l []api.Statement
	number, begin := 1, 0
	for i := 0; i <= len(text); i++ {
		if i < len(text) && text[i] != 10 {
			continue
		}
		if i == len(text) && begin == i {
			break
		}
		found, e := lexer.Line(text[begin:i])
		if e == api.OK && len(found) > 0 && !model.MatchString(coded(found)) {
			e = api.ErrText
		}
		if e != api.OK {
			return nil, number, e
		}
		if len(found) > 0 {
			l = append(l, api.Statement{Line: number, Tokens: found})
		}
		number, begin = number+1, i+1
	}
	return l, 0, api.OK
}

// mixedLine returns a line that is most often one of statements, with spaces and comments.
func mixedLine(next func(int) int) string {
	all := lines(plain)
	s := all[next(len(all))]
	switch next(12) {
	case 0:
		s = ""
	case 1:
		s = "# " + s
	case 2:
		s = strings.ReplaceAll(s, " ", "   ") + "  # " + s
	case 3:
		s = "  " + s + "#x"
	case 4:
		s = strings.ReplaceAll(s, "00 ", "00:00 ")
	case 5:
		s += strings.Repeat(" ", next(512-len(s))+1)
	}
	return s
}

// spoilt returns a line that is most often none of a statement.
func spoilt(next func(int) int, s string) string {
	switch next(5) {
	case 0:
		return s + strings.Repeat(" ", 513)
	case 1:
		return s + "\r"
	case 2:
		return s + " consent"
	case 3:
		return strings.TrimLeft(s, "abcdefghijklmnopqrstuvwxyz")
	default:
		i := next(len(s) + 1)
		return s[:i] + string([]byte{byte(next(256))}) + s[i:]
	}
}

func TestMixedTexts(t *testing.T) {
	model, next := modelForms(), mixedNumbers(72)
	var seen [9]int
	for range 20000 {
		var b strings.Builder
		for range next(30) {
			s := mixedLine(next)
			if next(60) == 0 {
				s = spoilt(next, s)
			}
			b.WriteString(s + "\n")
		}
		text := b.String()
		if next(2) == 0 {
			text = strings.TrimSuffix(text, "\n")
		}
		if next(50) == 0 {
			text += strings.Repeat("\n", bytesOfText-len(text)-2+next(5))
		}
		want, wantLine, wantErr := modelParse(model, text)
		got, line, e := syntax.Parse(text)
		if !sameStatements(got, want) || line != wantLine || e != wantErr {
			t.Fatalf("%q: %v %d %d, not %v %d %d", text, got, line, e, want, wantLine, wantErr)
		}
		seen[e]++
	}
	if seen[api.OK] < 5000 || seen[api.ErrText] < 2000 || seen[api.ErrLimit] < 500 {
		t.Errorf("too few texts of a kind: %v", seen)
	}
}

// P7.3

// members returns a statement whose line has n bytes, without its end.
func members(n int) api.Statement {
	s := api.Statement{Tokens: []api.Token{word("member")}}
	for n -= len("member"); n > 0; {
		size := min(n, api.MaxName+1)
		if n-size == 1 {
			size--
		}
		s.Tokens = append(s.Tokens, word(strings.Repeat("m", size-1)))
		n -= size
	}
	return s
}

// of returns a statement of tokens.
func of(l ...api.Token) api.Statement {
	return api.Statement{Tokens: l}
}

// noStatements returns statements that have no Text, although their lines would be short.
func noStatements() []api.Statement {
	none := []api.Statement{
		{}, of(api.Token{}), of(word("schedule")), of(word("member")), of(word("days")), of(word("x")), of(word("schedule"), word("a"), word("b")), of(word("Schedule"), word("a")), of(api.Token{Kind: api.TokenNumber, Text: "schedule"}, word("a")), of(word("schedule"), api.Token{Kind: 6, Text: "a"}), of(word("schedule"), api.Token{Kind: -1}), of(word("zone z"), api.Token{Kind: api.TokenOffset}), of(word("zone z +01:00")), of(word("schedule a")), of(word("#")), of(word("")),
		of(word("schedule"), word("")), of(word("schedule"), word("A")), of(word("schedule"), word("a b")), of(word("schedule"), word("a#")), of(word("schedule"), word("a\n")), of(word("schedule"), word("a\nschedule b")), of(word("schedule"), word("7")), of(word("schedule"), word("é")), of(word("schedule"), word(strings.Repeat("a", api.MaxName+1))), of(word("schedule"), word(strings.Repeat("a", 1000))), of(word("schedule"), api.Token{Text: "a", Num: 1}), of(api.Token{Text: "schedule", Num: 1}, word("a")), of(api.Token{Text: "schedule", Num: math.MinInt}, word("a")),
		of(word("member"), word("a"), word("B"), word("c")), of(word("member"), word("A"), word("b")), of(word("member"), word("a"), word("b"), word("")),
		of(word("days"), api.Token{Kind: api.TokenDate, Num: -1}), of(word("days"), api.Token{Kind: api.TokenDate, Num: 98981}), of(word("days"), api.Token{Kind: api.TokenDate, Text: "a"}), of(word("days"), api.Token{Kind: api.TokenDate}, api.Token{Kind: api.TokenDate, Num: math.MaxInt}),
		of(word("zone"), word("z"), api.Token{Kind: api.TokenOffset, Num: 1}), of(word("zone"), word("z"), api.Token{Kind: api.TokenOffset, Num: 64860}), of(word("zone"), word("z"), api.Token{Kind: api.TokenOffset, Num: math.MinInt}),
		of(word("person"), word("a"), word("z"), word("week"), api.Token{Kind: api.TokenNumber, Num: -1}), of(word("person"), word("a"), word("z"), word("rest"), api.Token{Kind: api.TokenNumber, Num: 1000000000}), of(word("person"), word("a"), word("z"), api.Token{Text: "consent", Num: 1}),
		of(word("on"), word("mon"), api.Token{Kind: api.TokenClock}, word("mon"), api.Token{Kind: api.TokenClock, Num: 86401}), of(word("leave"), word("a"), api.Token{Kind: api.TokenInstant, Num: api.MaxInstant}, api.Token{Kind: api.TokenInstant}), of(word("leave"), word("a"), api.Token{Kind: api.TokenInstant}, api.Token{Kind: api.TokenInstant, Num: -1}),
	}
	return none
}

func TestTextsOfStatements(t *testing.T) {
	for _, x := range []struct {
		l    []api.Statement
		want string
	}{
		{nil, ""}, {[]api.Statement{}, ""}, {[]api.Statement{statement(t, 1, "schedule a")}, "schedule a\n"}, {[]api.Statement{statement(t, 1, "  schedule   a # b")}, "schedule a\n"},
		{[]api.Statement{statement(t, 7, "only b"), statement(t, 7, "schedule a"), statement(t, -3, "only b")}, "only b\nschedule a\nonly b\n"},
		{[]api.Statement{statement(t, 0, "zone z -00:00"), statement(t, math.MinInt, "on mon 09:00:00 tue 24:00:00"), statement(t, math.MaxInt, "quiet mon 09:00:01 tue 00:00:00")}, "zone z +00:00\non mon 09:00 tue 24:00\nquiet mon 09:00:01 tue 00:00\n"},
	} {
		if s, e := syntax.Text(x.l); s != x.want || e != api.OK {
			t.Errorf("%v: %q %d", x.l, s, e)
		}
	}
	var l []api.Statement
	for i, s := range lines(plain) {
		l = append(l, statement(t, -i, s))
	}
	if s, e := syntax.Text(l); s != plain || e != api.OK {
		t.Errorf("%q %d", s, e)
	}
}

func TestStatementsWithoutText(t *testing.T) {
	good := statement(t, 1, "schedule a")
	for _, wrong := range noStatements() {
		wrong.Line = 1
		for i, l := range [][]api.Statement{
			{wrong}, {wrong, good}, {good, wrong}, {good, wrong, good}, {wrong, wrong}, {good, good, good, good, wrong}, {wrong, members(bytesOfLine + 1)}, {members(bytesOfLine), wrong}, append(slices.Repeat([]api.Statement{members(bytesOfLine)}, 128), wrong), append(slices.Repeat([]api.Statement{members(bytesOfLine)}, 300), wrong, good),
		} {
			if s, e := syntax.Text(l); s != "" || e != api.ErrInvalid {
				t.Errorf("%d, %v: %q %d", i, wrong, s, e)
			}
		}
		if s, e := syntax.Text([]api.Statement{good, members(bytesOfLine + 1), wrong}); s != "" || e != api.ErrLimit {
			t.Errorf("behind a long line, %v: %q %d", wrong, s, e)
		}
	}
	// Within a statement, the tokens go ahead of the length.
	for _, x := range []api.Token{word("A"), word(""), {Kind: api.TokenNumber}, {Text: "a", Num: 1}} {
		long := members(bytesOfLine + 1)
		for i := 1; i <= len(long.Tokens); i++ {
			if s, e := syntax.Text([]api.Statement{of(slices.Insert(slices.Clone(long.Tokens), i, x)...)}); s != "" || e != api.ErrInvalid {
				t.Errorf("%v at %d of a long line: %q %d", x, i, s, e)
			}
		}
	}
}

func TestLengthsOfLinesOfStatements(t *testing.T) {
	for n := bytesOfLine - 60; n <= bytesOfLine+60; n++ {
		want := api.OK
		if n > bytesOfLine {
			want = api.ErrLimit
		}
		long := members(n)
		for i, l := range [][]api.Statement{{long}, {long, long}, {members(20), long}, {long, members(20)}, {members(20), long, members(20)}} {
			s, e := syntax.Text(l)
			if e != want || e != api.OK && s != "" {
				t.Errorf("%d bytes, %d: %q %d", n, i, s, e)
			}
			if e == api.OK && !slices.ContainsFunc(lines(s), func(x string) bool { return len(x) == n }) {
				t.Errorf("%d bytes, %d: %q", n, i, s)
			}
		}
	}
	// 4 and 46 times 11 bytes are 510
	for _, x := range []struct {
		days int
		word string
		want api.Errno
	}{{46, "days", api.OK}, {47, "days", api.ErrLimit}, {1000, "days", api.ErrLimit}} {
		l := of(append([]api.Token{word(x.word)}, slices.Repeat([]api.Token{{Kind: api.TokenDate}}, x.days)...)...)
		if s, e := syntax.Text([]api.Statement{l}); e != x.want || (e == api.OK) != (len(s) == 511) {
			t.Errorf("%d days: %q %d", x.days, s, e)
		}
	}
}

func TestLengthsOfTextsOfStatements(t *testing.T) {
	full := slices.Repeat([]api.Statement{members(bytesOfLine)}, 127)
	rest := bytesOfText - 127*(bytesOfLine+1)
	for _, x := range []struct {
		l     []api.Statement
		bytes int
	}{
		{full, 127 * 513}, {append(slices.Clone(full), members(rest-1)), bytesOfText}, {append([]api.Statement{members(rest - 1)}, full...), bytesOfText}, {append(slices.Clone(full), members(rest-2)), bytesOfText - 1}, {slices.Repeat([]api.Statement{members(15)}, bytesOfText/16), bytesOfText}, {slices.Repeat([]api.Statement{members(31)}, bytesOfText/32), bytesOfText},
	} {
		s, e := syntax.Text(x.l)
		if len(s) != x.bytes || e != api.OK {
			t.Errorf("%d bytes, %d, not %d", len(s), e, x.bytes)
		}
		if back, line, e := syntax.Parse(s); len(back) != len(x.l) || line != 0 || e != api.OK {
			t.Errorf("%d %d %d", len(back), line, e)
		}
	}
	for i, l := range [][]api.Statement{
		append(slices.Clone(full), members(rest)), append([]api.Statement{members(rest)}, full...), append(slices.Clone(full), members(rest-1), members(8)), append(slices.Clone(full), full...), slices.Repeat([]api.Statement{members(15)}, bytesOfText/16+1), slices.Repeat([]api.Statement{members(bytesOfLine)}, 20000),
	} {
		if s, e := syntax.Text(l); s != "" || e != api.ErrLimit {
			t.Errorf("%d: %d bytes, %d", i, len(s), e)
		}
	}
}

// normal returns a text without comments, surplus spaces and empty lines, whose clocks and offsets are in their shortest form already.
func normal(text string) string {
	var b strings.Builder
	for _, line := range lines(text) {
		line, _, _ = strings.Cut(line, "#")
		if words := strings.Fields(line); len(words) > 0 {
			b.WriteString(strings.Join(words, " ") + "\n")
		}
	}
	return b.String()
}

// Text and Parse are inverse to each other.
func TestTextIsInverse(t *testing.T) {
	next := mixedNumbers(73)
	found := 0
	for range 10000 {
		var b strings.Builder
		for range next(30) {
			b.WriteString(mixedLine(next) + "\n")
		}
		l, _, e := syntax.Parse(b.String())
		if e != api.OK {
			continue
		}
		found++
		s, e := syntax.Text(l)
		if want := normal(b.String()); normal(strings.ReplaceAll(want, "00:00 ", "00 ")) != normal(strings.ReplaceAll(s, "00:00 ", "00 ")) || e != api.OK {
			t.Fatalf("%q: %q %d", b.String(), s, e)
		}
		for i := range l {
			l[i].Line = i + 1
		}
		back, line, e := syntax.Parse(s)
		if !sameStatements(back, l) || line != 0 || e != api.OK {
			t.Fatalf("%q: %v %d %d, not %v", s, back, line, e, l)
		}
		if again, e := syntax.Text(back); again != s || e != api.OK {
			t.Fatalf("%q: %q %d", s, again, e)
		}
	}
	if found < 5000 {
		t.Errorf("only %d texts", found)
	}
}

// modelText returns the text of statements, or the first error.
func modelText(model *regexp.Regexp, l []api.Statement) (string, api.Errno) {
	text := ""
	for _, s := range l {
		line, e := "", api.OK
		if !model.MatchString(coded(s.Tokens)) {
			e = api.ErrInvalid
		}
		for i, t := range s.Tokens {
			word, wrong := lexer.Text(t)
			if wrong != api.OK {
				e = api.ErrInvalid
			}
			if i > 0 {
				line += " "
			}
			line += word
		}
		if e == api.OK && len(line) > bytesOfLine {
			e = api.ErrLimit
		}
		if e != api.OK {
			return "", e
		}
		text += line + "\n"
	}
	if len(text) > bytesOfText {
		return "", api.ErrLimit
	}
	return text, api.OK
}

func TestMixedStatements(t *testing.T) {
	model, next := modelForms(), mixedNumbers(74)
	all, none := samples(), noStatements()
	var seen [9]int
	for range 6000 {
		var l []api.Statement
		for range next(12) {
			s, _ := lexer.Line(mixedLine(next))
			if len(s) == 0 {
				s = members(100 + next(412)).Tokens
			}
			switch next(60) {
			case 0:
				s = none[next(len(none))].Tokens
			case 1:
				s[next(len(s))] = all[next(len(all))]
			case 2:
				s = members(bytesOfLine - 2 + next(5)).Tokens
			case 3:
				l = slices.Repeat(append(l, of(members(200+next(312)).Tokens...)), 12)
			}
			l = append(l, api.Statement{Line: next(9), Tokens: s})
		}
		if len(l) > 2000 {
			l = l[:2000]
		}
		want, wantErr := modelText(model, l)
		got, e := syntax.Text(l)
		if got != want || e != wantErr {
			t.Fatalf("%v: %q %d, not %q %d", l, got, e, want, wantErr)
		}
		seen[e]++
	}
	if seen[api.OK] < 1000 || seen[api.ErrInvalid] < 500 || seen[api.ErrLimit] < 200 {
		t.Errorf("too few lists of a kind: %v", seen)
	}
}

// P7.4

func TestWords(t *testing.T) {
	for _, x := range []struct {
		name  string
		find  func(string) (int, bool)
		words string
		first int
	}{
		{"Month", syntax.Month, "jan feb mar apr may jun jul aug sep oct nov dec", 1},
		{"Weekday", syntax.Weekday, "mon tue wed thu fri sat sun", 0},
		{"Ordinal", syntax.Ordinal, "first second third fourth last", 1},
	} {
		known := strings.Fields(x.words)
		for i, s := range known {
			if n, ok := x.find(s); n != x.first+i || !ok {
				t.Errorf("%s %q: %d %v", x.name, s, n, ok)
			}
		}
		others := []string{"", " ", "  ", "a", "x", "0", "1", "7", "12", "january", "february", "march", "april", "june", "july", "sept", "september", "december", "monday", "tues", "thur", "thurs", "saturday", "sunday", "fifth", "fourth-last", "zeroth", "1st", "2nd", "one", "two", "lst", "none", "jan feb", "mon tue", "first second", "janfeb", "montue", "jan,", "-", "_", "\x00", "\xff", "é", x.words, strings.Repeat("jan", 1000)}
		for _, s := range strings.Fields("jan feb mar apr may jun jul aug sep oct nov dec mon tue wed thu fri sat sun first second third fourth last") {
			others = append(others, s, strings.ToUpper(s), strings.ToUpper(s[:1])+s[1:], s+s, s+"s", s+" ", " "+s, s+"\n", s+"\x00", "x"+s, s[1:], s[:len(s)-1], s[:1], s[:2])
		}
		for _, s := range others {
			if n, ok := x.find(s); !slices.Contains(known, s) && (n != 0 || ok) {
				t.Errorf("%s %q: %d %v", x.name, s, n, ok)
			}
		}
	}
}

// Months, weekdays and ordinals are the words of three to six letters that the functions know.
func TestAllShortWords(t *testing.T) {
	const letters = "abcdefghijklmnopqrstuvwxyz"
	found := 0
	for _, a := range letters {
		for _, b := range letters {
			for _, c := range letters {
				s := string([]rune{a, b, c})
				_, isMonth := syntax.Month(s)
				_, isWeekday := syntax.Weekday(s)
				_, isOrdinal := syntax.Ordinal(s)
				if isMonth {
					found++
				}
				if isWeekday {
					found += 100
				}
				if isOrdinal {
					found += 10000
				}
			}
		}
	}
	if found != 712 {
		t.Error(found)
	}
}

// R2 and R6

func TestArgumentsStay(t *testing.T) {
	l, _, _ := syntax.Parse(plain)
	want, _, _ := syntax.Parse(plain)
	for _, s := range l {
		syntax.Form(s.Tokens)
		syntax.Form(s.Tokens[:1])
	}
	first, _ := syntax.Text(l)
	second, _ := syntax.Text(l[1:])
	if !reflect.DeepEqual(l, want) || first != plain || second != plain[strings.Index(plain, "\n")+1:] {
		t.Errorf("%v %q %q", l, first, second)
	}
	for i := range l {
		for j := range l[i].Tokens {
			l[i].Tokens[j] = api.Token{}
		}
	}
	if again, line, e := syntax.Parse(plain); !reflect.DeepEqual(again, want) || line != 0 || e != api.OK {
		t.Errorf("%v %d %d", again, line, e)
	}
}
