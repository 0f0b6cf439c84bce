package token_test

import (
	"math"
	"math/rand"
	"regexp"
	"slices"
	"strconv"
	"strings"
	"testing"
	"unicode/utf8"

	"numerary/api"
	"numerary/token"
)

// shape is a line of the chapter's table: the signs of a kind, and what of them is its Text and Count.
type shape struct {
	kind  token.Kind
	signs *regexp.Regexp
	tell  func(signs string) (string, int)
}

func inner(signs string) (string, int) {
	return signs[1 : len(signs)-1], 0
}

func second(signs string) (string, int) {
	return signs[1:], 0
}

func itself(signs string) (string, int) {
	return signs, 1
}

// table is the chapter's table, in its order. Nothing is looked for in it but in texts of signs alone.
var table = []shape{
	{token.Quote, regexp.MustCompile(`^"[^"]*"`), inner},
	{token.Escape, regexp.MustCompile(`(?s)^\\.`), second},
	{token.Space, regexp.MustCompile(`(?s)^_.`), second},
	{token.Fill, regexp.MustCompile(`(?s)^\*.`), second},
	{token.Bracket, regexp.MustCompile(`^\[[^\]]*\]`), inner},
	{token.Digit, regexp.MustCompile(`^[0#?]`), itself},
	{token.Point, regexp.MustCompile(`^\.`), itself},
	{token.Comma, regexp.MustCompile(`^,`), itself},
	{token.Percent, regexp.MustCompile(`^%`), itself},
	{token.Slash, regexp.MustCompile(`^/`), itself},
	{token.Semicolon, regexp.MustCompile(`^;`), itself},
	{token.Text, regexp.MustCompile(`^@`), itself},
	{token.Power, regexp.MustCompile(`^[Ee][+\-]`), func(signs string) (string, int) { return signs[1:], 1 }},
	{token.Half, regexp.MustCompile(`^([Aa][Mm]/[Pp][Mm]|[Aa]/[Pp])`), func(signs string) (string, int) { return strings.ToUpper(signs), 1 }},
	{token.General, regexp.MustCompile(`^[Gg][Ee][Nn][Ee][Rr][Aa][Ll]`), func(string) (string, int) { return "General", 1 }},
	{token.Date, regexp.MustCompile(`^([Yy]+|[Mm]+|[Dd]+|[Hh]+|[Ss]+)`), func(signs string) (string, int) { return strings.ToLower(signs[:1]), len(signs) }},
	{token.Plain, regexp.MustCompile(`^[$\-+():!^&'~{}<>= 1-9\x{80}-\x{10FFFF}]`), itself},
}

// unended is what is answered of a sign without its end.
var unended = map[byte]api.Errno{'"': api.ErrQuote, '\\': api.ErrEscape, '_': api.ErrMark, '*': api.ErrMark, '[': api.ErrBracket}

// answer is what All answers.
type answer struct {
	tokens []token.Token
	at     int
	fault  api.Errno
}

// firstWrong: where the first byte is that begins no sign; the length, if there is none.
func firstWrong(code string) int {
	at := 0
	for at < len(code) {
		r, size := utf8.DecodeRuneInString(code[at:])
		if r == utf8.RuneError && size <= 1 {
			break
		}
		at += size
	}
	return at
}

// first: the token that the table tells at the beginning of signs, and its size; 0, if it tells none.
func first(signs string) (token.Token, int) {
	for _, line := range table {
		if size := len(line.signs.FindString(signs)); size > 0 {
			text, count := line.tell(signs[:size])
			return token.Token{Kind: line.kind, Text: text, Count: count}, size
		}
	}
	return token.Token{}, 0
}

// wantAll: what P11.1 says of All.
func wantAll(code string) answer {
	if len(code) > 4096 {
		return answer{fault: api.ErrLong}
	}
	right := firstWrong(code)
	var tokens []token.Token
	at := 0
	for at < right {
		x, size := first(code[at:right])
		if size == 0 {
			break
		}
		x.At = at
		tokens = append(tokens, x)
		at += size
	}
	switch {
	case at == len(code):
		return answer{tokens: tokens, at: at}
	case at < right && unended[code[at]] == 0:
		return answer{at: at, fault: api.ErrSign}
	case right < len(code):
		return answer{at: right, fault: api.ErrUTF}
	}
	return answer{at: len(code), fault: unended[code[at]]}
}

// brief: a text, for what is told of it.
func brief(text string) string {
	if len(text) > 60 {
		return strconv.Quote(text[:25]) + " .. " + strconv.Quote(text[len(text)-25:])
	}
	return strconv.Quote(text)
}

// told: a token, for what is told of it.
func told(x token.Token) string {
	return "{" + strconv.Itoa(int(x.Kind)) + " " + brief(x.Text) + " " + strconv.Itoa(x.Count) + " " + strconv.Itoa(x.At) + "}"
}

// toldAll: an answer, for what is told of it.
func toldAll(a answer) string {
	text := ""
	for _, x := range a.tokens[:min(len(a.tokens), 20)] {
		text += told(x) + " "
	}
	return text + "(" + strconv.Itoa(len(a.tokens)) + "), " + strconv.Itoa(a.at) + ", " + strconv.Itoa(int(a.fault))
}

// all: what All answers.
func all(code string) answer {
	tokens, at, fault := token.All(code)
	return answer{tokens, at, fault}
}

func same(a, b answer) bool {
	return slices.Equal(a.tokens, b.tokens) && a.at == b.at && a.fault == b.fault
}

// checkAll: what is P11.1's answer?
func checkAll(t *testing.T, code string, want answer) {
	t.Helper()
	if got := all(code); !same(got, want) {
		t.Errorf("P11.1: All of %s: %s; want %s", brief(code), toldAll(got), toldAll(want))
	}
}

// checkToken: a code of one token.
func checkToken(t *testing.T, code string, kind token.Kind, text string, count int) {
	t.Helper()
	checkAll(t, code, answer{tokens: []token.Token{{Kind: kind, Text: text, Count: count}}, at: len(code)})
}

// checkFault: a code that is refused.
func checkFault(t *testing.T, code string, at int, fault api.Errno) {
	t.Helper()
	checkAll(t, code, answer{at: at, fault: fault})
}

// checkCode: what all promises say of a code.
func checkCode(t *testing.T, code string) {
	t.Helper()
	checkAll(t, code, wantAll(code))
	checkAgain(t, code)
}

// lettersAside: a code in which those letters are small that P11.3 leaves open.
func lettersAside(code string, tokens []token.Token) string {
	free := []byte(code)
	for _, x := range tokens {
		switch x.Kind {
		case token.Power, token.Date, token.Half, token.General:
			size := max(x.Count, len(x.Text))
			if x.Kind == token.Power {
				size = 2
			}
			copy(free[x.At:], strings.ToLower(code[x.At:x.At+size]))
		}
	}
	return string(free)
}

// checkAgain: what P11.3 says of a code.
func checkAgain(t *testing.T, code string) {
	t.Helper()
	a := all(code)
	if a.fault != api.OK {
		return
	}
	again := ""
	for _, x := range a.tokens {
		again += x.Code()
	}
	if lettersAside(again, a.tokens) != lettersAside(code, a.tokens) {
		t.Errorf("P11.3: the Codes of the tokens of %s are %s", brief(code), brief(again))
	}
	if b := all(again); !same(a, b) {
		t.Errorf("P11.3: of %s: %s; of its tokens' Codes, %s: %s", brief(code), toldAll(a), brief(again), toldAll(b))
	}
}

func TestExamples(t *testing.T) {
	checkAll(t, "#,##0", answer{[]token.Token{{token.Digit, "#", 1, 0}, {token.Comma, ",", 1, 1}, {token.Digit, "#", 1, 2}, {token.Digit, "#", 1, 3}, {token.Digit, "0", 1, 4}}, 5, api.OK})
	checkToken(t, "mmm", token.Date, "m", 3)
	checkAgain(t, "#,##0")
	checkAgain(t, "mmm")
	checkAll(t, "", answer{})
}

func TestKindsAreNumbered(t *testing.T) {
	kinds := []token.Kind{token.Quote, token.Escape, token.Space, token.Fill, token.Bracket, token.Digit, token.Point, token.Comma, token.Percent, token.Slash, token.Semicolon, token.Text, token.Power, token.Date, token.Half, token.General, token.Plain}
	for i, kind := range kinds {
		if int(kind) != 1+i {
			t.Errorf("Kind %d has the number %d", 1+i, kind)
		}
	}
}

func TestSingleSigns(t *testing.T) {
	for _, x := range []struct {
		kind  token.Kind
		signs string
	}{
		{token.Digit, "0#?"}, {token.Point, "."}, {token.Comma, ","}, {token.Percent, "%"}, {token.Slash, "/"}, {token.Semicolon, ";"}, {token.Text, "@"},
		{token.Plain, "$-+():!^&'~{}<>= 123456789\u0080\u0085\u00A0é¼\u017F\u212A\uFF10\u2212\uFF0F\u07FF\u0800€\uD7FF\uE000\uFEFF\uFFFD\uFFFF\U00010000\U0001F600\U0010FFFF"},
	} {
		for _, r := range x.signs {
			checkToken(t, string(r), x.kind, string(r), 1)
			checkCode(t, "0"+string(r)+"#")
		}
	}
}

func TestSignsThatBeginNothing(t *testing.T) {
	for _, c := range "\x00\x01\t\n\v\f\r\x1B\x1F]`|\x7FabcfgijklnopqrtuvwxzABCFGIJKLNOPQRTUVWXZEe" {
		checkFault(t, string(c), 0, api.ErrSign)
		checkFault(t, "é0"+string(c)+"0", 3, api.ErrSign)
		checkFault(t, "\"é\""+string(c)+"\xFF", 4, api.ErrSign)
	}
}

func TestQuotesAndBrackets(t *testing.T) {
	for _, text := range []string{"", "a", " ", "a b", "0", ";", `\`, "_", "*", "'", "é", "€\U0001F600", "\x00", "\n", "\x7F", "\uFFFD", "General", "Red", "<=-0.5", "$€-407", "hh", strings.Repeat("é", 2047)} {
		checkToken(t, `"`+text+`"`, token.Quote, text, 0)
		checkToken(t, "["+text+"]", token.Bracket, text, 0)
	}
	checkToken(t, `"[]"`, token.Quote, "[]", 0)
	checkToken(t, `"]"`, token.Quote, "]", 0)
	checkToken(t, `[""]`, token.Bracket, `""`, 0)
	checkToken(t, `["]`, token.Bracket, `"`, 0)
	checkToken(t, "[[]", token.Bracket, "[", 0)
	checkAll(t, `""""`, answer{[]token.Token{{token.Quote, "", 0, 0}, {token.Quote, "", 0, 2}}, 4, api.OK})
	checkAll(t, `"a\"$`, answer{[]token.Token{{token.Quote, `a\`, 0, 0}, {token.Plain, "$", 1, 4}}, 5, api.OK})
	checkAll(t, `["]"]"`, answer{[]token.Token{{token.Bracket, `"`, 0, 0}, {token.Quote, "]", 0, 3}}, 6, api.OK})
	checkFault(t, "[]]", 2, api.ErrSign)
	checkFault(t, `"a"b"`, 3, api.ErrSign)
}

func TestEscapesAndMarks(t *testing.T) {
	for _, sign := range []string{"a", "0", ";", `"`, `\`, "_", "*", "[", "]", " ", "q", "E", "A", "\x00", "\n", "\x7F", "\u0080", "é", "€", "\uFFFD", "\U0001F600", "\U0010FFFF"} {
		checkToken(t, `\`+sign, token.Escape, sign, 0)
		checkToken(t, "_"+sign, token.Space, sign, 0)
		checkToken(t, "*"+sign, token.Fill, sign, 0)
	}
	checkAll(t, `\""a"`, answer{[]token.Token{{token.Escape, `"`, 0, 0}, {token.Quote, "a", 0, 2}}, 5, api.OK})
	checkAll(t, `\\_**_\_`, answer{[]token.Token{{token.Escape, `\`, 0, 0}, {token.Space, "*", 0, 2}, {token.Fill, "_", 0, 4}, {token.Escape, "_", 0, 6}}, 8, api.OK})
	checkAll(t, `\a\mm`, answer{[]token.Token{{token.Escape, "a", 0, 0}, {token.Escape, "m", 0, 2}, {token.Date, "m", 1, 4}}, 5, api.OK})
}

// spelt: a word with each choice of small and great letters.
func spelt(word string) []string {
	out := []string{""}
	for i := range len(word) {
		small, great := strings.ToLower(word[i:i+1]), strings.ToUpper(word[i:i+1])
		var next []string
		for _, begun := range out {
			next = append(next, begun+small)
			if small != great {
				next = append(next, begun+great)
			}
		}
		out = next
	}
	return out
}

func TestWords(t *testing.T) {
	for _, x := range []struct {
		word string
		kind token.Kind
	}{{"AM/PM", token.Half}, {"A/P", token.Half}, {"General", token.General}} {
		for _, word := range spelt(x.word) {
			checkToken(t, word, x.kind, x.word, 1)
			checkAll(t, word+word, answer{[]token.Token{{x.kind, x.word, 1, 0}, {x.kind, x.word, 1, len(word)}}, 2 * len(word), api.OK})
			for size := 1; size < len(word); size++ {
				checkFault(t, word[:size], 0, api.ErrSign)
				checkFault(t, word[:size]+"\xFF", 0, api.ErrSign)
			}
		}
		for i := range len(x.word) {
			for c := range 256 {
				checkCode(t, x.word[:i]+string([]byte{byte(c)})+x.word[i+1:])
			}
		}
	}
	checkAll(t, "A/PM", answer{[]token.Token{{token.Half, "A/P", 1, 0}, {token.Date, "m", 1, 3}}, 4, api.OK})
	checkAll(t, "mAm/PmM", answer{[]token.Token{{token.Date, "m", 1, 0}, {token.Half, "AM/PM", 1, 1}, {token.Date, "m", 1, 6}}, 7, api.OK})
	checkFault(t, "AM/P", 0, api.ErrSign)
	checkFault(t, "am-pm", 0, api.ErrSign)
	checkFault(t, "0 Generale", 9, api.ErrSign)
	checkFault(t, "Ge+neral", 0, api.ErrSign)
}

func TestPowers(t *testing.T) {
	for _, letter := range []string{"E", "e"} {
		checkToken(t, letter+"+", token.Power, "+", 1)
		checkToken(t, letter+"-", token.Power, "-", 1)
		checkFault(t, letter, 0, api.ErrSign)
		checkFault(t, "0"+letter, 1, api.ErrSign)
		for c := range 256 {
			if c != '+' && c != '-' {
				checkFault(t, "é"+letter+string([]byte{byte(c)}), 2, api.ErrSign)
			}
		}
		checkFault(t, letter+letter+"+", 0, api.ErrSign)
	}
	checkAll(t, "0E+0e-0+-", answer{[]token.Token{{token.Digit, "0", 1, 0}, {token.Power, "+", 1, 1}, {token.Digit, "0", 1, 3}, {token.Power, "-", 1, 4}, {token.Digit, "0", 1, 6}, {token.Plain, "+", 1, 7}, {token.Plain, "-", 1, 8}}, 9, api.OK})
}

func TestDates(t *testing.T) {
	for _, letter := range []string{"y", "m", "d", "h", "s"} {
		great := strings.ToUpper(letter)
		for _, count := range []int{1, 2, 3, 4, 5, 6, 100, 4096} {
			checkToken(t, strings.Repeat(letter, count), token.Date, letter, count)
			checkToken(t, strings.Repeat(great, count), token.Date, letter, count)
		}
		checkToken(t, letter+great, token.Date, letter, 2)
		checkToken(t, great+letter+letter+great, token.Date, letter, 4)
		checkAll(t, letter+" "+great, answer{[]token.Token{{token.Date, letter, 1, 0}, {token.Plain, " ", 1, 1}, {token.Date, letter, 1, 2}}, 3, api.OK})
		checkAll(t, letter+`""`+letter, answer{[]token.Token{{token.Date, letter, 1, 0}, {token.Quote, "", 0, 1}, {token.Date, letter, 1, 3}}, 4, api.OK})
	}
	checkAll(t, "yyyymMddhHsSd", answer{[]token.Token{{token.Date, "y", 4, 0}, {token.Date, "m", 2, 4}, {token.Date, "d", 2, 6}, {token.Date, "h", 2, 8}, {token.Date, "s", 2, 10}, {token.Date, "d", 1, 12}}, 13, api.OK})
	// A long s is no s, whatever a library says of letters small or great.
	checkAll(t, "s\u017FS", answer{[]token.Token{{token.Date, "s", 1, 0}, {token.Plain, "\u017F", 1, 1}, {token.Date, "s", 1, 3}}, 4, api.OK})
}

func TestEnds(t *testing.T) {
	for _, ahead := range []string{"", "0", "é;", `"a"`, `\\`, "yy"} {
		n := len(ahead)
		for _, x := range []struct {
			code  string
			fault api.Errno
		}{
			{`"`, api.ErrQuote}, {`"abc`, api.ErrQuote}, {`"é`, api.ErrQuote}, {`"]`, api.ErrQuote}, {`"\`, api.ErrQuote}, {`"[_*`, api.ErrQuote},
			{`\`, api.ErrEscape}, {"_", api.ErrMark}, {"*", api.ErrMark},
			{"[", api.ErrBracket}, {"[Red", api.ErrBracket}, {`["`, api.ErrBracket}, {`[""`, api.ErrBracket}, {"[é€", api.ErrBracket}, {"[[", api.ErrBracket},
		} {
			checkFault(t, ahead+x.code, n+len(x.code), x.fault)
			checkAgain(t, ahead+x.code+`"]`)
		}
	}
}

// wrong: texts at whose beginning there is no sign.
var wrong = []string{"\x80", "\xBF", "\xC0\x80", "\xC1\xBF", "\xC3", "\xC3a", "\xE2", "\xE2\x82", "\xE2\x82a", "\xE0\x9F\xBF", "\xED\xA0\x80", "\xED\xBF\xBF", "\xF0\x9F\x98", "\xF0\x8F\xBF\xBF", "\xF4\x90\x80\x80", "\xF5\x80\x80\x80", "\xFE", "\xFF"}

func TestBytesThatBeginNoSign(t *testing.T) {
	for _, w := range wrong {
		for _, ahead := range []string{"", "0", "é", `"a"`, "[Red]", `\é`, "_\U0001F600", "yyy", "General", "E+", `"`, `"a`, `"é0`, "[", "[a", "[é€", `\`, "_", "*", `0\`, "é_", ";*"} {
			for _, behind := range []string{"", "0", `"`, "]", "q", "\xFF", `"]"`} {
				checkFault(t, ahead+w+behind, len(ahead), api.ErrUTF)
			}
		}
		// A sign that is wrong stands ahead of the byte.
		for _, ahead := range []string{"q", "]", "E", "e", "A", "AM/P", "Genera", "\n", "a/"} {
			checkFault(t, ahead+w, 0, api.ErrSign)
			checkFault(t, "00"+ahead+w, 2, api.ErrSign)
		}
	}
	checkFault(t, "\"a\xFFb\xFE", 2, api.ErrUTF)
	checkFault(t, "[a\xFFb\xFE]", 2, api.ErrUTF)
	checkFault(t, "\"a\"q\xFF", 3, api.ErrSign)
	checkFault(t, "\"\xE2\"\x82\xAC", 1, api.ErrUTF)
}

func TestLength(t *testing.T) {
	for _, code := range []string{strings.Repeat("0", 4096), strings.Repeat("é", 2048), strings.Repeat("s", 4096), strings.Repeat("yM", 2048), strings.Repeat(`\a`, 2048), `"` + strings.Repeat("a", 4094) + `"`, "[" + strings.Repeat("é", 2047) + "]", strings.Repeat("E+", 2048)} {
		if len(code) != 4096 {
			t.Fatalf("%s has %d bytes", brief(code), len(code))
		}
		checkCode(t, code)
		if a := all(code); a.at != 4096 || a.fault != api.OK {
			t.Errorf("P11.1: All of %s: %s", brief(code), toldAll(a))
		}
		for _, more := range []string{"0", "q", "\xFF", `"`, strings.Repeat("0", 4096)} {
			checkFault(t, code+more, 0, api.ErrLong)
		}
	}
	checkFault(t, `"`+strings.Repeat("a", 4095), 4096, api.ErrQuote)
	checkFault(t, "["+strings.Repeat("a", 4095), 4096, api.ErrBracket)
	checkFault(t, strings.Repeat("0", 4095)+`\`, 4096, api.ErrEscape)
	checkFault(t, strings.Repeat("0", 4095)+"_", 4096, api.ErrMark)
	checkFault(t, strings.Repeat("0", 4095)+"q", 4095, api.ErrSign)
	checkFault(t, strings.Repeat("0", 4095)+"\xC3", 4095, api.ErrUTF)
	// Too long is said first, whatever else is wrong.
	for _, code := range []string{strings.Repeat("\xFF", 4097), strings.Repeat("q", 4097), `"` + strings.Repeat("a", 4096), strings.Repeat("0", 1<<20), "q" + strings.Repeat("é", 2048)} {
		checkFault(t, code, 0, api.ErrLong)
	}
}

// parts: texts of which codes are put together: each kind's, and wrong ones.
var parts = []string{
	`""`, `"a"`, `"é]"`, `"`, `\a`, `\"`, `\`, "_)", "_é", "_", "*x", "**", "*", "[]", "[Red]", `["]`, "[", "]",
	"0", "#", "?", ".", ",", "%", "/", ";", "@", "E+", "e-", "E", "e", "+", "-",
	"AM/PM", "am/Pm", "A/P", "a/p", "A", "a", "P", "General", "gENERAL", "Genera", "l",
	"y", "YY", "m", "M", "mmmm", "d", "h", "S", "\u017F", "\u212A",
	"$", "1", "9", " ", "~", "é", "€", "\U0001F600", "q", "\n", "\x7F", "\xFF", "\xC3", "\xA9", "\xE2\x82",
}

func TestPartsPutTogether(t *testing.T) {
	for _, a := range parts {
		checkCode(t, a)
		for _, b := range parts {
			checkCode(t, a+b)
			for _, c := range parts {
				checkCode(t, a+b+c)
			}
		}
	}
}

func TestEveryTwoBytes(t *testing.T) {
	for a := range 256 {
		for b := range 256 {
			checkCode(t, string([]byte{byte(a), byte(b)}))
		}
	}
}

func TestChance(t *testing.T) {
	source := rand.New(rand.NewSource(11))
	for range 5000 {
		code := ""
		for range 1 + source.Intn(40) {
			code += parts[source.Intn(len(parts))]
		}
		checkCode(t, code)
	}
	// Of parts that are wholly right, long codes are.
	whole := slices.DeleteFunc(slices.Clone(parts), func(part string) bool { return wantAll(part).fault != api.OK })
	for range 60 {
		code := ""
		for len(code) < 4000 {
			code += whole[source.Intn(len(whole))]
		}
		checkCode(t, code)
		if a := all(code); a.fault != api.OK {
			t.Errorf("P11.1: All of %s: %s", brief(code), toldAll(a))
		}
	}
}

func TestAnswersAreNew(t *testing.T) {
	code := "0.0;[Red]mm"
	want := wantAll(code)
	a, b := all(code), all(code)
	for i := range a.tokens {
		a.tokens[i] = token.Token{}
	}
	if !same(b, want) || !same(all(code), want) {
		t.Errorf("P11.1: answers share memory: %s", toldAll(b))
	}
}

// wantCode: what P11.2 says of Code: the signs of the first line of the table whose signs are just these, and tell the token.
func wantCode(x token.Token) string {
	if len(x.Text) > 4096 || x.Count < 0 || x.Count > 4096 {
		return ""
	}
	signs := ""
	switch x.Kind {
	case token.Quote:
		signs = `"` + x.Text + `"`
	case token.Escape:
		signs = `\` + x.Text
	case token.Space:
		signs = "_" + x.Text
	case token.Fill:
		signs = "*" + x.Text
	case token.Bracket:
		signs = "[" + x.Text + "]"
	case token.Power:
		signs = "E" + x.Text
	case token.Date:
		if len(x.Text) != 1 {
			return ""
		}
		signs = strings.Repeat(x.Text, x.Count)
	default:
		signs = x.Text
	}
	if len(signs) > 4096 || !utf8.ValidString(signs) {
		return ""
	}
	y, size := first(signs)
	y.At = x.At
	if size != len(signs) || x != y {
		return ""
	}
	return signs
}

func TestCode(t *testing.T) {
	for _, x := range []struct {
		kind  token.Kind
		text  string
		count int
		want  string
	}{
		{token.Quote, "", 0, `""`}, {token.Quote, "a b", 0, `"a b"`}, {token.Quote, `[\;]`, 0, `"[\;]"`}, {token.Quote, "é", 0, `"é"`}, {token.Quote, `"`, 0, ""}, {token.Quote, `a"b`, 0, ""}, {token.Quote, `a"0"b`, 0, ""}, {token.Quote, `""`, 0, ""}, {token.Quote, "a", 1, ""}, {token.Quote, "a", -1, ""}, {token.Quote, "\xFF", 0, ""}, {token.Quote, "\xC3", 0, ""}, {token.Quote, strings.Repeat("a", 4094), 0, `"` + strings.Repeat("a", 4094) + `"`}, {token.Quote, strings.Repeat("a", 4095), 0, ""}, {token.Quote, strings.Repeat("a", 1<<20), 0, ""},
		{token.Escape, "é", 0, `\é`}, {token.Escape, `\`, 0, `\\`}, {token.Escape, `"`, 0, `\"`}, {token.Escape, "\x00", 0, "\\\x00"}, {token.Escape, "", 0, ""}, {token.Escape, "ab", 0, ""}, {token.Escape, "00", 0, ""}, {token.Escape, "a", 1, ""}, {token.Escape, "\xFF", 0, ""}, {token.Escape, "\xE2\x82", 0, ""},
		{token.Space, ")", 0, "_)"}, {token.Space, "_", 0, "__"}, {token.Space, "", 0, ""}, {token.Space, "))", 0, ""}, {token.Space, ")", 1, ""}, {token.Space, "\x80", 0, ""},
		{token.Fill, "x", 0, "*x"}, {token.Fill, "€", 0, "*€"}, {token.Fill, "", 0, ""}, {token.Fill, "-0", 0, ""}, {token.Fill, "x", 1, ""}, {token.Fill, "\xC3a", 0, ""},
		{token.Bracket, "", 0, "[]"}, {token.Bracket, "Red", 0, "[Red]"}, {token.Bracket, `"`, 0, `["]`}, {token.Bracket, "[", 0, "[[]"}, {token.Bracket, "]", 0, ""}, {token.Bracket, "a][b", 0, ""}, {token.Bracket, "a]0", 0, ""}, {token.Bracket, "Red", 1, ""}, {token.Bracket, "a\xFF", 0, ""}, {token.Bracket, strings.Repeat("é", 2047), 0, "[" + strings.Repeat("é", 2047) + "]"}, {token.Bracket, strings.Repeat("é", 2047) + "a", 0, ""},
		{token.Digit, "0", 1, "0"}, {token.Digit, "#", 1, "#"}, {token.Digit, "?", 1, "?"}, {token.Digit, "1", 1, ""}, {token.Digit, "00", 1, ""}, {token.Digit, "00", 2, ""}, {token.Digit, "0", 2, ""}, {token.Digit, "0", 0, ""}, {token.Digit, "", 0, ""}, {token.Digit, "", 1, ""},
		{token.Point, ".", 1, "."}, {token.Point, ",", 1, ""}, {token.Point, ".", 0, ""}, {token.Comma, ",", 1, ","}, {token.Comma, ".", 1, ""}, {token.Percent, "%", 1, "%"}, {token.Percent, "%%", 2, ""}, {token.Slash, "/", 1, "/"}, {token.Slash, `\`, 1, ""}, {token.Semicolon, ";", 1, ";"}, {token.Semicolon, ":", 1, ""}, {token.Text, "@", 1, "@"}, {token.Text, "a", 1, ""}, {token.Text, "@", 0, ""},
		{token.Power, "+", 1, "E+"}, {token.Power, "-", 1, "E-"}, {token.Power, "-", 0, ""}, {token.Power, "", 1, ""}, {token.Power, "E+", 1, ""}, {token.Power, "+0", 1, ""}, {token.Power, "*", 1, ""}, {token.Power, "+", 2, ""},
		{token.Date, "m", 1, "m"}, {token.Date, "m", 3, "mmm"}, {token.Date, "y", 4096, strings.Repeat("y", 4096)}, {token.Date, "y", 4097, ""}, {token.Date, "y", 0, ""}, {token.Date, "y", -1, ""}, {token.Date, "y", math.MaxInt, ""}, {token.Date, "y", math.MinInt, ""}, {token.Date, "M", 3, ""}, {token.Date, "n", 2, ""}, {token.Date, "a", 1, ""}, {token.Date, "", 1, ""}, {token.Date, "mm", 1, ""}, {token.Date, "mm", 2, ""}, {token.Date, "0", 1, ""}, {token.Date, "\u017F", 1, ""}, {token.Date, strings.Repeat("y", 4096), 4096, ""}, {token.Date, strings.Repeat("y", 4097), 4096, ""},
		{token.Half, "AM/PM", 1, "AM/PM"}, {token.Half, "A/P", 1, "A/P"}, {token.Half, "am/pm", 1, ""}, {token.Half, "a/p", 1, ""}, {token.Half, "A/p", 1, ""}, {token.Half, "AM/P", 1, ""}, {token.Half, "AM/PM", 0, ""}, {token.Half, "A/P", 2, ""}, {token.Half, "", 1, ""},
		{token.General, "General", 1, "General"}, {token.General, "general", 1, ""}, {token.General, "GENERAL", 1, ""}, {token.General, "General ", 1, ""}, {token.General, "General", 0, ""}, {token.General, "", 1, ""},
		{token.Plain, "$", 1, "$"}, {token.Plain, "1", 1, "1"}, {token.Plain, " ", 1, " "}, {token.Plain, "é", 1, "é"}, {token.Plain, "\U0010FFFF", 1, "\U0010FFFF"}, {token.Plain, "0", 1, ""}, {token.Plain, "a", 1, ""}, {token.Plain, "y", 1, ""}, {token.Plain, "\n", 1, ""}, {token.Plain, "\xFF", 1, ""}, {token.Plain, "11", 2, ""}, {token.Plain, "11", 1, ""}, {token.Plain, "$", 0, ""}, {token.Plain, "", 0, ""},
		{0, "", 0, ""}, {0, "0", 1, ""}, {0, "a", 0, ""}, {-1, "0", 1, ""}, {18, "0", 1, ""}, {18, "$", 1, ""}, {math.MaxInt, "0", 1, ""}, {math.MinInt, "0", 1, ""},
	} {
		for _, at := range []int{0, 7, -1, 4096, math.MaxInt, math.MinInt} {
			y := token.Token{Kind: x.kind, Text: x.text, Count: x.count, At: at}
			if code := y.Code(); code != x.want {
				t.Errorf("P11.2: Code of %s: %s; want %s", told(y), brief(code), brief(x.want))
			}
		}
	}
}

func TestCodeOfEachKind(t *testing.T) {
	texts := slices.Clone(parts)
	for c := range 256 {
		texts = append(texts, string([]byte{byte(c)}))
	}
	texts = append(texts, "", "mm", "00", "E+0", "é€", strings.Repeat("a", 4094), strings.Repeat("a", 4095), strings.Repeat("a", 5000))
	for kind := token.Kind(-2); kind <= 20; kind++ {
		for _, text := range texts {
			for _, count := range []int{0, 1, 2, 3, 4096, 4097, -1, -2, math.MaxInt, math.MinInt} {
				x := token.Token{Kind: kind, Text: text, Count: count, At: 5}
				if code, want := x.Code(), wantCode(x); code != want {
					t.Errorf("P11.2: Code of %s: %s; want %s", told(x), brief(code), brief(want))
				}
			}
		}
	}
}

func TestCodeLeavesTheToken(t *testing.T) {
	x := token.Token{Kind: token.Date, Text: "m", Count: 2, At: 9}
	y := x
	if x.Code() != "mm" || (&x).Code() != "mm" || x != y {
		t.Errorf("P11.2: Code changed %s to %s", told(y), told(x))
	}
}

func TestTokensAreTheseAgain(t *testing.T) {
	code := "[Red]#,##0.0?%;\\-_)*x\"a b\"@ E+e-yYMMAm/pMA/pgeneral$é/"
	again := ""
	for _, x := range all(code).tokens {
		again += x.Code()
	}
	if want := "[Red]#,##0.0?%;\\-_)*x\"a b\"@ E+E-yymmAM/PMA/PGeneral$é/"; again != want {
		t.Errorf("P11.3: %q; want %q", again, want)
	}
	checkAgain(t, code)
}

func FuzzToken(f *testing.F) {
	for _, part := range parts {
		f.Add(part+"0", 1, 1)
	}
	f.Fuzz(func(t *testing.T, text string, kind, count int) {
		checkCode(t, text)
		x := token.Token{Kind: token.Kind(kind), Text: text, Count: count}
		if code, want := x.Code(), wantCode(x); code != want {
			t.Errorf("P11.2: Code of %s: %s; want %s", told(x), brief(code), brief(want))
		}
	})
}
