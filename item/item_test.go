package item_test

import (
	"math"
	"math/rand"
	"regexp"
	"slices"
	"strconv"
	"strings"
	"testing"

	"numerary/api"
	"numerary/colour"
	"numerary/cond"
	"numerary/item"
	"numerary/token"
)

// answer is what Of answers.
type answer struct {
	section item.Section
	at      int
	fault   api.Errno
}

// letterOf: one letter that stands for a token, with as much of it as the chapter's rules hang on. Those of a Day are D (but h, s, m: m of 1 or 2) and A (a Half), H, S, M (elapsed units).
func letterOf(x token.Token) string {
	switch x.Kind {
	case token.Quote, token.Escape, token.Plain:
		return "l"
	case token.Space:
		return "_"
	case token.Fill:
		return "*"
	case token.Digit:
		if x.Text == "0" {
			return "0"
		}
		return "#"
	case token.Point:
		return "."
	case token.Comma:
		return ","
	case token.Percent:
		return "%"
	case token.Slash:
		return "/"
	case token.Power:
		return "E"
	case token.Text:
		return "@"
	case token.General:
		return "G"
	case token.Half:
		return "A"
	case token.Date:
		if x.Text == "h" || x.Text == "s" || x.Text == "m" && (x.Count == 1 || x.Count == 2) {
			return x.Text
		}
		return "D"
	case token.Bracket:
		return letterOfBracket(x.Text)
	}
	return ";"
}

// units are elapsed ones.
var units = regexp.MustCompile(`^([hH]{1,9}|[mM]{1,9}|[sS]{1,9})$`)

// letterOfBracket: c of a colour, k of a condition, w of money, ! of none.
func letterOfBracket(text string) string {
	if n, _ := colour.Number(text); n != 0 {
		return "c"
	}
	if _, ok := cond.Parse(text); ok {
		return "k"
	}
	if units.MatchString(text) {
		return strings.ToUpper(text[:1])
	}
	if _, _, ok := colour.Money(text); ok {
		return "w"
	}
	return "!"
}

// lettersOf: those of all tokens.
func lettersOf(l []token.Token) string {
	var letters strings.Builder
	for _, x := range l {
		letters.WriteString(letterOf(x))
	}
	return letters.String()
}

// inDays are the letters of what makes a section a Day.
const inDays = "hmsDAHMS"

// wantSort: what a section of those letters is for.
func wantSort(letters string) item.Sort {
	has := strings.Contains
	switch digits := strings.ContainsAny(letters, "0#"); {
	case strings.ContainsAny(letters, inDays):
		return item.Day
	case has(letters, "@"):
		return item.Words
	case has(letters, "G"):
		return item.Any
	case digits && has(letters, "/"):
		return item.Vulgar
	case digits && has(letters, "E"):
		return item.Sci
	case digits:
		return item.Number
	}
	return item.Fixed
}

// parts are the Parts of Days, with the token ahead of each.
var parts = regexp.MustCompile(`[sS](\.0{1,3})`)

// markParts: the letters with p for each token of a Part, but P for its Point.
func markParts(letters string) string {
	return parts.ReplaceAllStringFunc(letters, func(found string) string {
		return found[:1] + "P" + strings.Repeat("p", len(found)-2)
	})
}

// families: how many of those are there that a section can have just one of?
func families(letters string) int {
	count := 0
	for _, family := range []string{inDays, "@", "G", "0#"} {
		if strings.ContainsAny(letters, family) {
			count++
		}
	}
	return count
}

// twice: the letters of which a section of a sort has just one.
var twice = map[item.Sort]string{item.Fixed: "ck*G", item.Number: "ck*G.", item.Sci: "ck*G.E", item.Vulgar: "ck*G/", item.Day: "ck*G", item.Words: "ck*G", item.Any: "ck*G"}

// never: the letters that a section of a sort has not.
var never = map[item.Sort]string{item.Sci: ",", item.Vulgar: "E.,"}

// wantFault: what P14.1 says of the token at a place, if none ahead of it is wrong.
func wantFault(letters string, at int, sort item.Sort) api.Errno {
	letter := letters[at : at+1]
	switch {
	case letter == ";":
		return api.ErrSection
	case letter == "!":
		return api.ErrBracket
	case strings.Contains(twice[sort], letter) && strings.Contains(letters[:at], letter):
		return api.ErrTwice
	case families(letters[:at+1]) > max(1, families(letters[:at])), strings.Contains(never[sort], letter):
		return api.ErrMixed
	}
	return api.OK
}

// kept has the letters of which a section of a sort has items of their own Kind, though others have Literals.
var kept = map[item.Sort]string{item.Number: ".,%", item.Sci: ".%E", item.Vulgar: "/"}

// ownKinds has the Kinds of letters that some sections have Literals of.
var ownKinds = map[string]item.Kind{".": item.Point, ",": item.Comma, "%": item.Percent, "/": item.Slash, "E": item.Power}

// sameKinds has the Kinds of letters that are the same in each section.
var sameKinds = map[string]item.Kind{"_": item.Space, "*": item.Fill, "0": item.Digit, "#": item.Digit, "@": item.Text, "G": item.General, "A": item.Half}

// wantItem: the item of a token, and of its letter; a Literal without a sign of one that has none.
func wantItem(x token.Token, letter string, sort item.Sort) item.Item {
	switch letter {
	case "h", "m", "s", "D":
		return item.Item{Kind: item.Date, Text: x.Text, Count: wantCount(x.Text, x.Count)}
	case "H", "M", "S":
		return item.Item{Kind: item.Elapsed, Text: strings.ToLower(letter), Count: len(x.Text)}
	case "w":
		sum, lang, _ := colour.Money(x.Text)
		return item.Item{Kind: item.Money, Text: sum, Count: int(lang)}
	case "c", "k", "p":
		return item.Item{Kind: item.Literal}
	}
	if kind := sameKinds[letter]; kind != 0 {
		return item.Item{Kind: kind, Text: x.Text}
	}
	if strings.Contains(kept[sort], letter) {
		return item.Item{Kind: ownKinds[letter], Text: x.Text}
	}
	if letter == "E" {
		return item.Item{Kind: item.Literal, Text: "E" + x.Text}
	}
	return item.Item{Kind: item.Literal, Text: x.Text}
}

// wantCount: what the chapter says of counts of dates.
func wantCount(letter string, count int) int {
	switch letter {
	case "y":
		if count > 2 {
			return 4
		}
		return 2
	case "m":
		return min(count, 5)
	case "d":
		return min(count, 4)
	case "h", "s":
		return min(count, 2)
	}
	return count
}

// minutes: m that is a minute, among letters of Days alone.
var (
	behindHour  = regexp.MustCompile(`[hH]m`)
	aheadSecond = regexp.MustCompile(`m[sS]`)
)

// wantMinutes: which of the letters of Days are minutes?
func wantMinutes(days string) map[int]bool {
	found := map[int]bool{}
	for _, m := range behindHour.FindAllStringIndex(days, -1) {
		found[m[1]-1] = true
	}
	for _, m := range aheadSecond.FindAllStringIndex(days, -1) {
		found[m[0]] = true
	}
	return found
}

// wantItems: the items of tokens that are all right.
func wantItems(l []token.Token, letters string, sort item.Sort) []item.Item {
	var days strings.Builder
	for _, c := range letters {
		if strings.ContainsRune(inDays, c) {
			days.WriteRune(c)
		}
	}
	minutes := wantMinutes(days.String())
	var items []item.Item
	day := 0
	for i, x := range l {
		letter := letters[i : i+1]
		one := wantItem(x, letter, sort)
		if letter == "P" {
			one = item.Item{Kind: item.Part, Count: len(letters[i+1:]) - len(strings.TrimLeft(letters[i+1:], "p"))}
		}
		if strings.Contains(inDays, letter) {
			if minutes[day] {
				one.Text = "n"
			}
			day++
		}
		items = append(items, one)
	}
	return joined(items)
}

// joined: items in which Literals are one, or none.
func joined(items []item.Item) []item.Item {
	var out []item.Item
	for i := 0; i < len(items); {
		if items[i].Kind != item.Literal {
			out = append(out, items[i])
			i++
			continue
		}
		var run strings.Builder
		for ; i < len(items) && items[i].Kind == item.Literal; i++ {
			run.WriteString(items[i].Text)
		}
		if run.Len() > 0 {
			out = append(out, item.Item{Kind: item.Literal, Text: run.String()})
		}
	}
	return out
}

// wantOf: what P14.1 says of tokens.
func wantOf(l []token.Token) answer {
	letters := markParts(lettersOf(l))
	want := item.Section{Sort: wantSort(letters)}
	for at := range l {
		if fault := wantFault(letters, at, want.Sort); fault != api.OK {
			return answer{item.Section{}, at, fault}
		}
	}
	if at := strings.Index(letters, "c"); at >= 0 {
		want.Colour, _ = colour.Number(l[at].Text)
	}
	if at := strings.Index(letters, "k"); at >= 0 {
		want.Cond, _ = cond.Parse(l[at].Text)
	}
	want.Items = wantItems(l, letters, want.Sort)
	return answer{want, len(l), api.OK}
}

// brief: a text, for what is told of it.
func brief(text string) string {
	if len(text) > 60 {
		return strconv.Quote(text[:25]) + " .. " + strconv.Quote(text[len(text)-25:])
	}
	return strconv.Quote(text)
}

// toldTokens: tokens, for what is told of them.
func toldTokens(l []token.Token) string {
	text := ""
	for _, x := range l[:min(len(l), 20)] {
		text += "{" + strconv.Itoa(int(x.Kind)) + " " + brief(x.Text) + " " + strconv.Itoa(x.Count) + "} "
	}
	return text + "(" + strconv.Itoa(len(l)) + ")"
}

// toldItems: items, for what is told of them.
func toldItems(l []item.Item) string {
	text := ""
	for _, x := range l[:min(len(l), 20)] {
		text += "{" + strconv.Itoa(int(x.Kind)) + " " + brief(x.Text) + " " + strconv.Itoa(x.Count) + "} "
	}
	return text + "(" + strconv.Itoa(len(l)) + ")"
}

// told: an answer, for what is told of it.
func told(a answer) string {
	text, _ := a.section.Cond.Text()
	return "sort " + strconv.Itoa(int(a.section.Sort)) + ", colour " + strconv.Itoa(a.section.Colour) + ", condition " + strconv.Quote(text) + ", " + toldItems(a.section.Items) + ", " + strconv.Itoa(a.at) + ", " + strconv.Itoa(int(a.fault))
}

// sameSection: are all fields of two the same?
func sameSection(a, b item.Section) bool {
	return a.Sort == b.Sort && a.Colour == b.Colour && a.Cond == b.Cond && slices.Equal(a.Items, b.Items)
}

// checkOf: is what Of answers of tokens that answer?
func checkOf(t *testing.T, l []token.Token, want answer) {
	t.Helper()
	section, at, fault := item.Of(l)
	if got := (answer{section, at, fault}); !sameSection(section, want.section) || at != want.at || fault != want.fault {
		t.Errorf("P14.1: Of %s: %s; want %s", toldTokens(l), told(got), told(want))
	}
}

// check: what P14.1 says of tokens.
func check(t *testing.T, l []token.Token) {
	t.Helper()
	checkOf(t, l, wantOf(l))
}

// tokens: those of a code.
func tokens(t *testing.T, code string) []token.Token {
	t.Helper()
	l, _, fault := token.All(code)
	if fault != api.OK {
		t.Fatalf("All of %s: %d", brief(code), fault)
	}
	return l
}

// checkCode: the sort and the items of a code.
func checkCode(t *testing.T, code string, sort item.Sort, items ...item.Item) {
	t.Helper()
	l := tokens(t, code)
	checkOf(t, l, answer{item.Section{Sort: sort, Items: items}, len(l), api.OK})
	check(t, l)
}

// checkFault: a code that is refused, at a token.
func checkFault(t *testing.T, code string, at int, fault api.Errno) {
	t.Helper()
	l := tokens(t, code)
	checkOf(t, l, answer{item.Section{}, at, fault})
	check(t, l)
}

// of: the section of a code that is right.
func of(t *testing.T, code string) item.Section {
	t.Helper()
	s, at, fault := item.Of(tokens(t, code))
	if fault != api.OK {
		t.Fatalf("P14.1: Of %s: %d, at %d", brief(code), fault, at)
	}
	return s
}

func lit(text string) item.Item            { return item.Item{Kind: item.Literal, Text: text} }
func dig(text string) item.Item            { return item.Item{Kind: item.Digit, Text: text} }
func date(text string, n int) item.Item    { return item.Item{Kind: item.Date, Text: text, Count: n} }
func gone(text string, n int) item.Item    { return item.Item{Kind: item.Elapsed, Text: text, Count: n} }
func part(n int) item.Item                 { return item.Item{Kind: item.Part, Count: n} }
func bare(k item.Kind, s string) item.Item { return item.Item{Kind: k, Text: s} }

func TestExamples(t *testing.T) {
	checkCode(t, "h:mm", item.Day, date("h", 1), lit(":"), date("n", 2))
	checkCode(t, "", item.Fixed)
	checkOf(t, nil, answer{item.Section{Sort: item.Fixed}, 0, api.OK})
	checkOf(t, []token.Token{}, answer{item.Section{Sort: item.Fixed}, 0, api.OK})
}

func TestKindsAndSortsAreNumbered(t *testing.T) {
	kinds := []item.Kind{item.Literal, item.Space, item.Fill, item.Digit, item.Point, item.Comma, item.Percent, item.Slash, item.Power, item.Text, item.General, item.Date, item.Half, item.Elapsed, item.Money, item.Part}
	for i, kind := range kinds {
		if int(kind) != 1+i {
			t.Errorf("Kind %d has the number %d", 1+i, kind)
		}
	}
	for i, sort := range []item.Sort{item.Fixed, item.Number, item.Sci, item.Vulgar, item.Day, item.Words, item.Any} {
		if int(sort) != 1+i {
			t.Errorf("Sort %d has the number %d", 1+i, sort)
		}
	}
}

func TestSorts(t *testing.T) {
	for _, x := range []struct {
		code string
		want item.Sort
	}{
		{"", item.Fixed}, {`"0@"`, item.Fixed}, {`\d\0\@`, item.Fixed}, {"_0*@", item.Fixed}, {".,%/E+", item.Fixed}, {"/", item.Fixed}, {"E-", item.Fixed}, {"[Red]", item.Fixed}, {"[<5]", item.Fixed}, {"[$hh]", item.Fixed}, {"[$0]", item.Fixed}, {"1", item.Fixed}, {"$-+():!^&'~{}<>= 123456789é", item.Fixed}, {"[$-409]", item.Fixed},
		{"0", item.Number}, {"#", item.Number}, {"?", item.Number}, {"[=0]#", item.Number}, {"0.0", item.Number}, {"0,", item.Number}, {"0%", item.Number}, {".0", item.Number}, {",0", item.Number}, {"%?", item.Number}, {"0\"/\"", item.Number}, {`0\E+`, item.Number},
		{"0E+0", item.Sci}, {"E-?", item.Sci}, {"#e+", item.Sci}, {"%.E+#", item.Sci},
		{"0/0", item.Vulgar}, {"/0", item.Vulgar}, {"?/", item.Vulgar}, {"#/1", item.Vulgar}, {"5/#%", item.Vulgar},
		{"d", item.Day}, {"A/P", item.Day}, {"am/pm", item.Day}, {"[h]", item.Day}, {"[MM]", item.Day}, {"[sssssssss]", item.Day}, {"y/E+,.%", item.Day}, {"s.0", item.Day}, {"[s].000/", item.Day},
		{"@", item.Words}, {"@@", item.Words}, {"/@E+.,%", item.Words}, {"[Red]@", item.Words},
		{"General", item.Any}, {"E+General/.,%", item.Any}, {"[>5]general", item.Any},
	} {
		if s := of(t, x.code); s.Sort != x.want {
			t.Errorf("P14.1: %s is for %d; want %d", brief(x.code), s.Sort, x.want)
		}
		check(t, tokens(t, x.code))
	}
}

func TestItemsOfEachSort(t *testing.T) {
	checkCode(t, `"a"\b-_x*y.,%/e+`, item.Fixed, lit("ab-"), bare(item.Space, "x"), bare(item.Fill, "y"), lit(".,%/E+"))
	checkCode(t, "#,?0.0%% _)", item.Number, dig("#"), bare(item.Comma, ","), dig("?"), dig("0"), bare(item.Point, "."), dig("0"), bare(item.Percent, "%"), bare(item.Percent, "%"), lit(" "), bare(item.Space, ")"))
	checkCode(t, ",0,,", item.Number, bare(item.Comma, ","), dig("0"), bare(item.Comma, ","), bare(item.Comma, ","))
	checkCode(t, "0.0%e-0", item.Sci, dig("0"), bare(item.Point, "."), dig("0"), bare(item.Percent, "%"), bare(item.Power, "-"), dig("0"))
	checkCode(t, "# ?/16%", item.Vulgar, dig("#"), lit(" "), dig("?"), bare(item.Slash, "/"), lit("16%"))
	checkCode(t, "d.m,y/%E+", item.Day, date("d", 1), lit("."), date("m", 1), lit(","), date("y", 2), lit("/%E+"))
	checkCode(t, "A/P[h]am/PM", item.Day, bare(item.Half, "A/P"), gone("h", 1), bare(item.Half, "AM/PM"))
	checkCode(t, "E-@.@,%/", item.Words, lit("E-"), bare(item.Text, "@"), lit("."), bare(item.Text, "@"), lit(",%/"))
	checkCode(t, "general%/..,E-/", item.Any, bare(item.General, "General"), lit("%/..,E-/"))
	checkCode(t, "..,,%%//E+E-", item.Fixed, lit("..,,%%//E+E-"))
}

func TestBrackets(t *testing.T) {
	for n := 1; n <= 64; n++ {
		for _, name := range []string{colour.Name(n), strings.ToUpper(colour.Name(n)), strings.ToLower(colour.Name(n))} {
			l := tokens(t, `\a[`+name+"]5")
			checkOf(t, l, answer{item.Section{Sort: item.Fixed, Colour: n, Items: []item.Item{lit("a5")}}, 3, api.OK})
		}
	}
	for _, text := range []string{"<0", "<=0", ">-0.50", ">=007", "=0", "=-0", "<>1.25"} {
		c, _ := cond.Parse(text)
		checkOf(t, tokens(t, "0["+text+"]0"), answer{item.Section{Sort: item.Number, Cond: c, Items: []item.Item{dig("0"), dig("0")}}, 3, api.OK})
	}
	for _, letter := range []string{"h", "m", "s"} {
		for count := 1; count <= 9; count++ {
			checkCode(t, "["+strings.Repeat(letter, count)+"]", item.Day, gone(letter, count))
			checkCode(t, "["+strings.ToUpper(letter)+strings.Repeat(letter, count-1)+"]", item.Day, gone(letter, count))
		}
		checkFault(t, "0["+strings.Repeat(letter, 10)+"]", 1, api.ErrBracket)
	}
	for _, x := range []struct {
		text, sum string
		lang      int
	}{{"$", "", 0}, {"$€", "€", 0}, {"$€-407", "€", 0x407}, {"$-F800", "", 0xF800}, {"$USD-", "", -1}, {"$-ffffffff", "", 0xFFFFFFFF}, {"$h", "h", 0}, {"$Red", "Red", 0}, {"$<5", "<5", 0}, {"$[", "[", 0}, {"$ -00000001", " ", 1}} {
		if x.lang >= 0 {
			checkCode(t, "["+x.text+"]", item.Fixed, item.Item{Kind: item.Money, Text: x.sum, Count: x.lang})
			checkCode(t, "0["+x.text+"] ", item.Number, dig("0"), item.Item{Kind: item.Money, Text: x.sum, Count: x.lang}, lit(" "))
		} else {
			checkFault(t, "0["+x.text+"]", 1, api.ErrBracket)
		}
	}
	for _, text := range []string{"", " ", "Orange", "Red ", " Red", "Color0", "Color57", "Color01", "Color", "<", "<5.", "< 5", "5", "<-", "=", "hm", "hhm", "d", "y", "h ", "-407", "€", "$-", "$a-b-c", "$-123456789", "$€-g", "0", "#", "@", "General", "x", "s.0", "\u017F", "<5x", "\x00"} {
		checkFault(t, "["+text+"]", 0, api.ErrBracket)
		checkFault(t, "0["+text+"]", 1, api.ErrBracket)
		checkFault(t, "[Red]d["+text+"]@", 2, api.ErrBracket)
	}
}

func TestLiteralsAreOne(t *testing.T) {
	checkCode(t, `"a""b"\c-"d"`, item.Fixed, lit("abc-d"))
	checkCode(t, `""`, item.Fixed)
	checkCode(t, `""""""0""`, item.Number, dig("0"))
	checkCode(t, `"a"""0""\b`, item.Number, lit("a"), dig("0"), lit("b"))
	checkCode(t, `m""m`, item.Day, date("m", 1), date("m", 1))
	checkCode(t, `0"a"_b"c"*d"e"`, item.Number, dig("0"), lit("a"), bare(item.Space, "b"), lit("c"), bare(item.Fill, "d"), lit("e"))
	checkCode(t, `d.""/"x"y`, item.Day, date("d", 1), lit("./x"), date("y", 2))
	red, less := "[Red]", "[<0]"
	for _, between := range []string{red, less, red + less, red + `""` + less} {
		s := of(t, `"a"`+between+`"b"0`)
		if !slices.Equal(s.Items, []item.Item{lit("ab"), dig("0")}) {
			t.Errorf("P14.1: Literals with %s between: %s", between, toldItems(s.Items))
		}
		check(t, tokens(t, `"a"`+between+`"b"0`))
	}
	checkCode(t, `"a"[$x]"b"`, item.Fixed, lit("a"), bare(item.Money, "x"), lit("b"))
}

func TestParts(t *testing.T) {
	for _, second := range []struct {
		code string
		item item.Item
	}{{"s", date("s", 1)}, {"ss", date("s", 2)}, {"SSSS", date("s", 2)}, {"[s]", gone("s", 1)}, {"[SSs]", gone("s", 3)}} {
		for count := 1; count <= 3; count++ {
			noughts := strings.Repeat("0", count)
			checkCode(t, second.code+"."+noughts, item.Day, second.item, part(count))
			checkCode(t, "d "+second.code+"."+noughts+".d", item.Day, date("d", 1), lit(" "), second.item, part(count), lit("."), date("d", 1))
			checkCode(t, second.code+"."+noughts+second.code+"."+noughts, item.Day, second.item, part(count), second.item, part(count))
			for _, other := range []string{"#", "?"} {
				checkFault(t, second.code+"."+noughts+other, 2+count, api.ErrMixed)
				checkFault(t, second.code+"."+noughts+other+"0", 2+count, api.ErrMixed)
			}
			checkFault(t, second.code+"."+noughts+"[Red]0", 3+count, api.ErrMixed)
			checkFault(t, second.code+"."+noughts+".0", 3+count, api.ErrMixed)
		}
		checkCode(t, second.code+".", item.Day, second.item, lit("."))
		checkCode(t, second.code+".1", item.Day, second.item, lit(".1"))
		checkFault(t, second.code+".0000", 5, api.ErrMixed)
		checkFault(t, second.code+"..0", 3, api.ErrMixed)
		checkFault(t, second.code+"0", 1, api.ErrMixed)
		checkFault(t, second.code+".#", 2, api.ErrMixed)
		checkFault(t, second.code+`.""0`, 3, api.ErrMixed)
		checkFault(t, second.code+`"".0`, 3, api.ErrMixed)
		checkFault(t, second.code+"[Red].0", 3, api.ErrMixed)
		checkFault(t, second.code+".[<0]0", 3, api.ErrMixed)
		checkFault(t, second.code+" .0", 3, api.ErrMixed)
		checkFault(t, second.code+",0", 2, api.ErrMixed)
		checkFault(t, "0"+second.code+".0", 1, api.ErrMixed)
	}
	for _, code := range []string{"h.0", "mm.0", "d.0", "y.0", "[h].0", "[m].0", "AM/PM.0"} {
		checkFault(t, code, 2, api.ErrMixed)
	}
	checkFault(t, "[$s].0d", 3, api.ErrMixed)
	checkFault(t, `d"s".0`, 3, api.ErrMixed)
	checkFault(t, ".0s", 2, api.ErrMixed)
}

func TestCountsOfDates(t *testing.T) {
	for _, x := range []struct {
		letter string
		want   []int
	}{{"y", []int{2, 2, 4, 4, 4, 4}}, {"m", []int{1, 2, 3, 4, 5, 5}}, {"d", []int{1, 2, 3, 4, 4, 4}}, {"h", []int{1, 2, 2, 2, 2, 2}}, {"s", []int{1, 2, 2, 2, 2, 2}}} {
		for i, want := range x.want {
			checkCode(t, strings.Repeat(x.letter, 1+i), item.Day, date(x.letter, want))
			checkCode(t, strings.Repeat(strings.ToUpper(x.letter), 1+i), item.Day, date(x.letter, want))
		}
		checkCode(t, strings.Repeat(x.letter, 4096), item.Day, date(x.letter, x.want[5]))
	}
}

func TestMinutes(t *testing.T) {
	for _, code := range []string{
		"h#", "hh#", "hhh#", "[h]#", "[hhh]#", "h:#", "h.#", `h"a""b"\c#`, "h[Red]#", "h[<0]#", "h[$m]#", "h_m*s#", "h[$s-409] #",
		"#s", "#ss", "#[s]", "#:ss.000", `#""s`, "#[Red][>0]s", "#[$h]s", "#_h*ds", "#[sssss]",
		"h#s", "h#h", "h# m", "h#d", "h#AM/PM", "h# mmm", "h#[m]", "d#s", "m #s", "mmm #s", "AM/PM#s", "[m]#s", "[s]#s", "s#s", "yyyy-mm-dd hh:#", "yyyy-mm-dd #:ss", "[m]h#", "s h#", "#ss.0m",
	} {
		for count, m := range []string{"m", "mm", "M", "mM"} {
			spelt := strings.ReplaceAll(code, "#", m)
			found := minutesOf(of(t, spelt))
			if !slices.Equal(found, []int{1 + count%2}) {
				t.Errorf("P14.1: %s has minutes of %v; want one of %d", brief(spelt), found, 1+count%2)
			}
			check(t, tokens(t, spelt))
		}
	}
	for _, code := range []string{
		"m", "mm", "m:m", "hmmm", "h:mmmm", "h mmmmm", "hmmmmmm", "mmms", "mmmm:ss", "mmmmm s", "d:m", "y-m", "yyyy-mm-dd", "m h", "mm:hh", "s m", "ss:mm", "[s]m", "m[h]", "h d m", "m d s", "h AM/PM m", "m AM/PM s", "h A/P mm", "mm A/P ss", "[m]:ss", "h:[m]", "h:[mm]:ss", "[m]", "h [m] m", "s.0 m", "h s m", "m h s", "hy m", `"h"m`, `\hm`, "[$h]m", "_hm", "*hm", "m[$s]", `m"s"`, "m_s", "mm*s", "hmmmm m", "m mmms",
	} {
		if found := minutesOf(of(t, code)); len(found) != 0 {
			t.Errorf("P14.1: %s has minutes of %v; want none", brief(code), found)
		}
		check(t, tokens(t, code))
	}
	checkCode(t, "h m m s", item.Day, date("h", 1), lit(" "), date("n", 1), lit(" "), date("n", 1), lit(" "), date("s", 1))
	checkCode(t, "h m m m s", item.Day, date("h", 1), lit(" "), date("n", 1), lit(" "), date("m", 1), lit(" "), date("n", 1), lit(" "), date("s", 1))
	checkCode(t, "h:mm:mm", item.Day, date("h", 1), lit(":"), date("n", 2), lit(":"), date("m", 2))
	checkCode(t, "mm:mm:ss", item.Day, date("m", 2), lit(":"), date("n", 2), lit(":"), date("s", 2))
	checkCode(t, "hmhms", item.Day, date("h", 1), date("n", 1), date("h", 1), date("n", 1), date("s", 1))
}

// minutesOf: the Counts of a section's minutes.
func minutesOf(s item.Section) []int {
	var found []int
	for _, x := range s.Items {
		if x.Kind == item.Date && x.Text == "n" {
			found = append(found, x.Count)
		}
	}
	return found
}

func TestFaults(t *testing.T) {
	for _, x := range []struct {
		code  string
		at    int
		fault api.Errno
	}{
		{";", 0, api.ErrSection}, {"0;", 1, api.ErrSection}, {"[Red];[Red]", 1, api.ErrSection}, {"d;0", 1, api.ErrSection},
		{"[Red][Red]", 1, api.ErrTwice}, {"[Red]0[BLUE]", 2, api.ErrTwice}, {"[Color9]d[red]", 2, api.ErrTwice}, {"[Red][<0][Red]", 2, api.ErrTwice},
		{"[<0][<0]", 1, api.ErrTwice}, {"[=0][=0]", 1, api.ErrTwice}, {"[=0]@[<>0]", 2, api.ErrTwice}, {"[<0][Red][<0]", 2, api.ErrTwice},
		{"*x*x", 1, api.ErrTwice}, {"*-0*x", 2, api.ErrTwice}, {"@*a_b*c", 3, api.ErrTwice}, {"d*a*b", 2, api.ErrTwice}, {"General*a*b", 2, api.ErrTwice}, {"?/?*a*b", 4, api.ErrTwice},
		{"GeneralGeneral", 1, api.ErrTwice}, {"General general", 2, api.ErrTwice},
		{"0..", 2, api.ErrTwice}, {"..0", 1, api.ErrTwice}, {".0.", 2, api.ErrTwice}, {"0.E+0.", 4, api.ErrTwice}, {"..E+0", 1, api.ErrTwice}, {"0E+0.0.", 5, api.ErrTwice},
		{"//0", 1, api.ErrTwice}, {"0//", 2, api.ErrTwice}, {"?/?/?", 3, api.ErrTwice},
		{"0E+E+", 2, api.ErrTwice}, {"E-E+0", 1, api.ErrTwice}, {"0E+0e-", 3, api.ErrTwice},
		{"0@", 1, api.ErrMixed}, {"@0", 1, api.ErrMixed}, {"@ #", 2, api.ErrMixed}, {"0General", 1, api.ErrMixed}, {"General0", 1, api.ErrMixed}, {"@General", 1, api.ErrMixed}, {"General@", 1, api.ErrMixed}, {"0d", 1, api.ErrMixed}, {"d0", 1, api.ErrMixed}, {"d@", 1, api.ErrMixed}, {"@d", 1, api.ErrMixed}, {"Generals", 1, api.ErrMixed}, {"yGeneral", 1, api.ErrMixed}, {"A/P0", 1, api.ErrMixed}, {"0A/P", 1, api.ErrMixed}, {"[h]0", 1, api.ErrMixed}, {"0[h]", 1, api.ErrMixed}, {"@[m]", 1, api.ErrMixed}, {"[s]General", 1, api.ErrMixed}, {"@AM/PM", 1, api.ErrMixed}, {"00d", 2, api.ErrMixed}, {"s.0@", 3, api.ErrMixed}, {"s.0General", 3, api.ErrMixed}, {"d h@ m", 3, api.ErrMixed},
		{"0E+/", 1, api.ErrMixed}, {"E+0/0", 0, api.ErrMixed}, {"0/0E+0", 3, api.ErrMixed}, {"0.0/0", 1, api.ErrMixed}, {".0/0", 0, api.ErrMixed}, {"0/0.", 3, api.ErrMixed}, {",0/0", 0, api.ErrMixed}, {"0,0/0", 1, api.ErrMixed}, {"0/0,", 3, api.ErrMixed},
		{",0E+0", 0, api.ErrMixed}, {"0E+0,", 3, api.ErrMixed}, {"0,0E+0", 1, api.ErrMixed}, {"E+0,,", 2, api.ErrMixed},
	} {
		checkFault(t, x.code, x.at, x.fault)
		checkFault(t, x.code+`"z"`, x.at, x.fault)
		checkFault(t, "_z"+x.code, 1+x.at, x.fault)
	}
}

func TestFirstWrongTokenCounts(t *testing.T) {
	for _, x := range []struct {
		code  string
		at    int
		fault api.Errno
	}{
		{";[x]", 0, api.ErrSection}, {"[x];", 0, api.ErrBracket}, {"0@;", 1, api.ErrMixed}, {"0..@[x];", 3, api.ErrMixed}, {"*a*b;[x]", 1, api.ErrTwice}, {"0d[x]", 1, api.ErrMixed}, {"0[x]d", 1, api.ErrBracket}, {"0..[x]", 2, api.ErrTwice},
		// What a section is for is told by all its tokens: here none is a Number.
		{"0.0.0@", 5, api.ErrMixed}, {"0.0.0d", 5, api.ErrMixed}, {"0/0/0General", 5, api.ErrMixed}, {"0E+E+[h]", 3, api.ErrMixed}, {"0.,/E+@", 5, api.ErrMixed}, {"0..;@", 3, api.ErrSection}, {"0,..;/", 1, api.ErrMixed},
	} {
		checkFault(t, x.code, x.at, x.fault)
	}
}

// some are tokens of each kind, and of each way in which they are looked at.
var some = []string{`"a"`, `""`, `\b`, "_c", "*d", "[Red]", "[<0]", "[$e]", "[x]", "0", "#", ".", ",", "%", "/", ";", "@", "E+", "h", "mm", "mmm", "s", "d", "[h]", "[m]", "[s]", "A/P", "General", "-"}

// lists: each list of so many of the tokens.
func lists(choice []token.Token, size int, each func([]token.Token)) {
	list := make([]token.Token, size)
	var fill func(at int)
	fill = func(at int) {
		if at == size {
			each(list)
			return
		}
		for _, x := range choice {
			list[at] = x
			fill(at + 1)
		}
	}
	fill(0)
}

// single: the tokens of codes that are one each.
func single(t *testing.T, codes []string) []token.Token {
	t.Helper()
	var out []token.Token
	for _, code := range codes {
		out = append(out, tokens(t, code)...)
	}
	if len(out) != len(codes) {
		t.Fatal("not one token each")
	}
	return out
}

func TestShortLists(t *testing.T) {
	for size := range 4 {
		lists(single(t, some), size, func(l []token.Token) { check(t, l) })
	}
	for _, codes := range [][]string{
		{"0", ".", ",", "%", "/", "E-", `"a"`, "@", "[x]"},
		{"h", "m", "MM", "mmmmmm", "[s]", "A/P", ".", "0", ":"},
		{"h", "m", "s", "[h]", "[m]", "AM/PM", "d"},
		{"s", ".", "0", "[s]", "#", "[Red]"},
		{`"a"`, `""`, "[Red]", "[<0]", "0", "*x", "General"},
	} {
		for size := 4; size <= 5; size++ {
			lists(single(t, codes), size, func(l []token.Token) { check(t, l) })
		}
	}
	lists(single(t, []string{"s", ".", "0", "#"}), 7, func(l []token.Token) { check(t, l) })
	lists(single(t, []string{"h", "m", "s", "AM/PM"}), 7, func(l []token.Token) { check(t, l) })
}

func TestTokensThatNoCodeHas(t *testing.T) {
	texts := []string{"", "0", "s", "h", "m", "n", "M", "S", "q", "y", "E", "é", "\xFF", "00", "Red", "<5", "hh", "General", strings.Repeat("s", 5000)}
	counts := []int{0, 1, 2, 3, 6, -1, -7, math.MaxInt, math.MinInt}
	for kind := token.Kind(-2); kind <= 20; kind++ {
		for _, text := range texts {
			for _, count := range counts {
				odd := token.Token{Kind: kind, Text: text, Count: count, At: -count}
				for _, ahead := range []string{"", "0", "h", "s.", `"a"`} {
					for _, behind := range []string{"", "0", "s", ".0", "/", "E+"} {
						check(t, append(append(tokens(t, ahead), odd), tokens(t, behind)...))
					}
				}
			}
		}
	}
	for _, kind := range []token.Kind{0, -1, 18, math.MaxInt, math.MinInt, token.Semicolon} {
		for _, text := range texts {
			checkOf(t, append(tokens(t, "0."), token.Token{Kind: kind, Text: text, Count: 1}), answer{item.Section{}, 2, api.ErrSection})
		}
	}
}

func TestAtMakesNoDifference(t *testing.T) {
	l := tokens(t, "[Red][<0]yyyy h:mm:ss.000 AM/PM")
	want := wantOf(l)
	for i := range l {
		l[i].At = 1000 - 7*i
	}
	checkOf(t, l, want)
}

func TestOfByChance(t *testing.T) {
	source := rand.New(rand.NewSource(14))
	all := single(t, some)
	for range 100000 {
		choice := make([]token.Token, 1+source.Intn(6))
		for i := range choice {
			choice[i] = all[source.Intn(len(all))]
		}
		l := make([]token.Token, source.Intn(12))
		for i := range l {
			l[i] = choice[source.Intn(len(choice))]
			if source.Intn(40) == 0 {
				l[i].Count = source.Intn(9) - 2
			}
			if source.Intn(40) == 0 {
				l[i].Text = some[source.Intn(len(some))]
			}
		}
		check(t, l)
	}
}

// repeated: the tokens of a code, so many times.
func repeated(t *testing.T, code string, count int) []token.Token {
	t.Helper()
	return slices.Repeat(tokens(t, code), count)
}

func TestLongLists(t *testing.T) {
	for _, code := range []string{`"abc"`, `\a_b`, "0", "0,", "@ ", "hms.000", "m", "[h]:", "s.0", "d[$x]", "A/P", `""`, "%-"} {
		check(t, repeated(t, code, 2000))
	}
	s := of(t, strings.Repeat(`\a`, 2048))
	if !slices.Equal(s.Items, []item.Item{lit(strings.Repeat("a", 2048))}) {
		t.Errorf("P14.1: the longest code of escapes has %s", toldItems(s.Items))
	}
}

func TestListsLongerThanCodes(t *testing.T) {
	const many = 200000
	s, at, fault := item.Of(repeated(t, `\a"bc"`, many))
	if at != 2*many || fault != api.OK || s.Sort != item.Fixed || len(s.Items) != 1 || s.Items[0] != lit(strings.Repeat("abc", many)) {
		t.Errorf("P14.1: of many Literals: %d, %d", at, fault)
	}
	s, at, fault = item.Of(repeated(t, "hms.00-", many))
	if at != 7*many || fault != api.OK || len(s.Items) != 5*many || s.Items[5*many-4] != date("n", 1) || s.Items[5*many-2] != part(2) {
		t.Errorf("P14.1: of many times: %d, %d, %d items", at, fault, len(s.Items))
	}
	s, at, fault = item.Of(repeated(t, "m", many))
	if at != many || fault != api.OK || !slices.Equal(s.Items, slices.Repeat([]item.Item{date("m", 1)}, many)) {
		t.Errorf("P14.1: of many months: %d, %d", at, fault)
	}
	for _, behind := range []string{";", "@@@0", "d", "[x]", "..", "E+,", "/.", "*a*b"} {
		wrong := tokens(t, "0"+behind)
		want := wantOf(wrong)
		checkOf(t, append(repeated(t, "0", many-1), wrong...), answer{item.Section{}, many - 1 + want.at, want.fault})
	}
}

func TestOfLeavesItsTokens(t *testing.T) {
	for _, code := range []string{"[Red][<0]h:mm:ss.000 AM/PM", "0.00E+0", "# ?/?", `"a"\b"c"@`, "0.0.0", "yyyyyy;"} {
		l := tokens(t, code)
		beyond := append(slices.Clone(l), tokens(t, ".0@;")...)
		section, at, fault := item.Of(beyond[:len(l)])
		if want := wantOf(l); !sameSection(section, want.section) || at != want.at || fault != want.fault {
			t.Errorf("P14.1: Of %s hangs on what lies behind it", brief(code))
		}
		if !slices.Equal(beyond, append(slices.Clone(l), tokens(t, ".0@;")...)) {
			t.Errorf("P14.1: Of %s changed what it was handed", brief(code))
		}
	}
}

func TestOfAnswersNewMemory(t *testing.T) {
	l := tokens(t, "[Red]h:mm:ss.000")
	first, _, _ := item.Of(l)
	second, _, _ := item.Of(l)
	want := wantOf(l).section
	for i := range first.Items {
		first.Items[i] = lit("changed")
	}
	_ = append(first.Items[:1], lit("more"), lit("more"))
	if third, _, _ := item.Of(l); !sameSection(second, want) || !sameSection(third, want) {
		t.Error("P14.1: a change of one answer is seen in another one")
	}
}

func TestHas(t *testing.T) {
	for _, x := range []struct {
		code string
		has  []item.Kind
	}{
		{"", nil}, {"[Red][<0]", nil}, {`""`, nil}, {`"a"`, []item.Kind{item.Literal}}, {".,%/E+", []item.Kind{item.Literal}},
		{"_a*b", []item.Kind{item.Space, item.Fill}}, {"0", []item.Kind{item.Digit}}, {"#,0.0%", []item.Kind{item.Digit, item.Comma, item.Point, item.Percent}}, {"0/0", []item.Kind{item.Digit, item.Slash}}, {"0E+0", []item.Kind{item.Digit, item.Power}},
		{"@", []item.Kind{item.Text}}, {"General", []item.Kind{item.General}}, {"d", []item.Kind{item.Date}}, {"A/P", []item.Kind{item.Half}}, {"[h]", []item.Kind{item.Elapsed}}, {"[$x]", []item.Kind{item.Money}}, {"s.0", []item.Kind{item.Date, item.Part}}, {"d-m", []item.Kind{item.Date, item.Literal}},
	} {
		s := of(t, x.code)
		for kind := item.Kind(-1); kind <= 18; kind++ {
			if got, want := s.Has(kind), slices.Contains(x.has, kind); got != want {
				t.Errorf("P14.2: has %s a %d? %v", brief(x.code), kind, got)
			}
		}
	}
	odd := item.Section{Sort: -5, Items: []item.Item{{}, {Kind: -3}, {Kind: math.MaxInt}, {Kind: item.Fill}}}
	for kind, want := range map[item.Kind]bool{0: true, -3: true, math.MaxInt: true, item.Fill: true, item.Literal: false, math.MinInt: false} {
		if odd.Has(kind) != want || (item.Section{}).Has(kind) {
			t.Errorf("P14.2: has one a %d? not %v", kind, want)
		}
	}
}

// checkEqual: are two said to be the same, or not, both ways round?
func checkEqual(t *testing.T, a, b item.Section, want bool) {
	t.Helper()
	if a.Equal(b) != want || b.Equal(a) != want {
		t.Errorf("P14.2: Equal of %s and %s: %v, %v; want %v", told(answer{section: a}), told(answer{section: b}), a.Equal(b), b.Equal(a), want)
	}
}

func TestEqual(t *testing.T) {
	for _, x := range []struct {
		a, b string
		want bool
	}{
		{"", "", true}, {"", `""`, true}, {`0"ab"`, `0\a\b`, true}, {`0"ab"`, `0\a`, false}, {"[Red]0", "0[RED]", true}, {"[Red]0", "[Blue]0", false}, {"[Red]0", "0", false}, {"[<0]0", "[<0.0]0", true}, {"[<0]0", "[<=0]0", false}, {"[<0]0", "0", false}, {"[Red][<0]@", "@[<-0][red]", true},
		{"yyy", "YYYYY", true}, {"y", "yy", true}, {"m", "mm", false}, {"h:m", "h:M", true}, {"m", "h", false}, {"0", "#", false}, {"0", "00", false}, {"0#", "#0", false}, {"0/1", "0/2", false}, {"0E+0", "0e+0", true}, {"0E+0", "0E-0", false}, {"s.0", "s.00", false}, {"[h]", "[H]", true}, {"[h]", "[hh]", false}, {"[h]", "h", false}, {"[$a]", `"a"`, false}, {"[$a]", "[$a-0]", true}, {"[$a]", "[$a-1]", false}, {"_a", "*a", false}, {"A/P", "a/p", true}, {"A/P", "AM/PM", false}, {"@", "General", false}, {".", `"."`, true}, {".0", `"."0`, false},
	} {
		checkEqual(t, of(t, x.a), of(t, x.b), x.want)
	}
}

func TestEqualAsksAll(t *testing.T) {
	c, _ := cond.Parse("<-5.5")
	made := func() item.Section {
		return item.Section{Sort: item.Day, Colour: 3, Cond: c, Items: []item.Item{{item.Date, "h", 2}, {item.Literal, "x", 0}}}
	}
	checkEqual(t, made(), made(), true)
	for i, change := range []func(s *item.Section){
		func(s *item.Section) { s.Sort = item.Any }, func(s *item.Section) { s.Sort = 0 }, func(s *item.Section) { s.Colour = 4 }, func(s *item.Section) { s.Colour = 0 },
		func(s *item.Section) { s.Cond.Op = cond.More }, func(s *item.Section) { s.Cond.Negative = false }, func(s *item.Section) { s.Cond.Whole = "" }, func(s *item.Section) { s.Cond.Part = "55" }, func(s *item.Section) { s.Cond = cond.Cond{} },
		func(s *item.Section) { s.Items[0].Kind = item.Elapsed }, func(s *item.Section) { s.Items[0].Text = "m" }, func(s *item.Section) { s.Items[0].Count = 1 }, func(s *item.Section) { s.Items[1].Kind = item.Money }, func(s *item.Section) { s.Items[1].Text = "" }, func(s *item.Section) { s.Items[1].Count = -1 },
		func(s *item.Section) { s.Items = s.Items[:1] }, func(s *item.Section) { s.Items = s.Items[1:] }, func(s *item.Section) { s.Items = nil }, func(s *item.Section) { s.Items = append(s.Items, item.Item{}) }, func(s *item.Section) { slices.Reverse(s.Items) },
	} {
		changed := made()
		change(&changed)
		if sameSection(changed, made()) {
			t.Fatalf("change %d is none", i)
		}
		checkEqual(t, made(), changed, false)
	}
	checkEqual(t, item.Section{}, item.Section{Items: []item.Item{}}, true)
	checkEqual(t, item.Section{Items: []item.Item{{}}}, item.Section{}, false)
	odd := item.Section{Sort: math.MinInt, Colour: math.MaxInt, Cond: cond.Cond{Op: -1, Whole: "x"}, Items: []item.Item{{Kind: 99, Count: math.MinInt}}}
	checkEqual(t, odd, odd, true)
}

func TestEqualAndHasLeaveTheirSections(t *testing.T) {
	a, b := of(t, "[Red]h:mm"), of(t, "[Red]h:mm")
	beyond := append(slices.Clone(a.Items), item.Item{Kind: item.Fill})
	a.Items = beyond[:len(a.Items)]
	if a.Has(item.Fill) || !a.Equal(b) || !b.Equal(a) {
		t.Error("P14.2: what lies behind the items is looked at")
	}
	if !sameSection(a, b) || beyond[len(beyond)-1] != (item.Item{Kind: item.Fill}) {
		t.Error("P14.2: Has or Equal changed a section")
	}
}

func FuzzItem(f *testing.F) {
	for _, code := range some {
		f.Add(code+"0", 1, 1, "0")
	}
	f.Fuzz(func(t *testing.T, code string, kind, count int, text string) {
		l, _, _ := token.All(code)
		check(t, l)
		check(t, append(l, token.Token{Kind: token.Kind(kind), Text: text, Count: count}))
	})
}
