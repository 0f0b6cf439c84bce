package colour_test

import (
	"fmt"
	"math"
	"math/rand"
	"regexp"
	"strconv"
	"strings"
	"testing"

	"numerary/colour"
)

// words has the names that are words, letters small: at each place the colour's own.
var words = []string{1: "black", "blue", "cyan", "green", "magenta", "red", "white", "yellow"}

// strange are signs above 7F that somebody may take for a letter or a digit, and bytes that begin no sign.
var strange = []string{"\u0080", "\u017F", "\u212A", "\u0130", "\u0131", "\u1E9E", "ß", "é", "а", "\u0400", "\uFF21", "\uFF48", "\uFF11", "\u0661", "¹", "\uFFFD", "\U0001D7CF", "\U0010FFFF", "\x80", "\xC1", "\xFF", "\xE2\x84", "\xED\xA0\x80", "\xF4\x90\x80\x80"}

// brief: a text, for what is told of it.
func brief(text string) string {
	if len(text) > 60 {
		return strconv.Quote(text[:25]) + " .. " + strconv.Quote(text[len(text)-25:])
	}
	return strconv.Quote(text)
}

// small: a text with the letters A to Z small, byte by byte.
func small(text string) string {
	out := []byte(text)
	for i, b := range out {
		if b >= 'A' && b <= 'Z' {
			out[i] = b - 'A' + 'a'
		}
	}
	return string(out)
}

// wantName: what P12.1 says of Name.
func wantName(n int) string {
	for k, word := range words {
		if k == n && k > 0 {
			return strings.ToUpper(word[:1]) + word[1:]
		}
	}
	for k := 1; k <= 56; k++ {
		if n == 8+k {
			return fmt.Sprintf("Color%d", k)
		}
	}
	return ""
}

// wantNumber: what P12.1 says of Number.
func wantNumber(text string) (int, bool) {
	text = small(text)
	for n, word := range words {
		if n > 0 && text == word {
			return n, true
		}
	}
	for k := 1; k <= 56; k++ {
		if text == "color"+strconv.Itoa(k) {
			return 8 + k, true
		}
	}
	return 0, false
}

// unit is what an elapsed unit's text is.
var unit = regexp.MustCompile(`^([hH]{1,9}|[mM]{1,9}|[sS]{1,9})$`)

// wantElapsed: what P12.2 says of Elapsed.
func wantElapsed(text string) (string, int, bool) {
	if !unit.MatchString(text) {
		return "", 0, false
	}
	return small(text[:1]), len(text), true
}

// purse is what a money's text is.
var purse = regexp.MustCompile(`(?s)^\$([^-]*)(-([0-9a-fA-F]{1,8}))?$`)

// wantMoney: what P12.2 says of Money.
func wantMoney(text string) (string, uint32, bool) {
	parts := purse.FindStringSubmatch(text)
	if parts == nil {
		return "", 0, false
	}
	lang := uint32(0)
	for _, digit := range small(parts[3]) {
		lang = lang<<4 | uint32(strings.IndexRune("0123456789abcdef", digit))
	}
	return parts[1], lang, true
}

// wantWallet: what P12.3 says of Wallet.
func wantWallet(text string, lang uint32) (string, bool) {
	for i := range len(text) {
		if text[i] == '-' {
			return "", false
		}
	}
	if lang == 0 {
		return "$" + text, true
	}
	return fmt.Sprintf("$%s-%X", text, lang), true
}

func checkNumber(t *testing.T, text string) {
	t.Helper()
	n, ok := colour.Number(text)
	if want, is := wantNumber(text); n != want || ok != is {
		t.Errorf("P12.1: Number of %s: %d, %v; want %d, %v", brief(text), n, ok, want, is)
	}
}

func checkName(t *testing.T, n int) {
	t.Helper()
	if name, want := colour.Name(n), wantName(n); name != want {
		t.Errorf("P12.1: Name of %d: %q; want %q", n, name, want)
	}
}

func checkElapsed(t *testing.T, text string) {
	t.Helper()
	letter, count, ok := colour.Elapsed(text)
	if want, many, is := wantElapsed(text); letter != want || count != many || ok != is {
		t.Errorf("P12.2: Elapsed of %s: %q, %d, %v; want %q, %d, %v", brief(text), letter, count, ok, want, many, is)
	}
}

func checkMoney(t *testing.T, text string) {
	t.Helper()
	sum, lang, ok := colour.Money(text)
	if want, spoken, is := wantMoney(text); sum != want || lang != spoken || ok != is {
		t.Errorf("P12.2: Money of %s: %s, %X, %v; want %s, %X, %v", brief(text), brief(sum), lang, ok, brief(want), spoken, is)
	}
}

// checkText: what P12.1 and P12.2 say of a text.
func checkText(t *testing.T, text string) {
	t.Helper()
	checkNumber(t, text)
	checkElapsed(t, text)
	checkMoney(t, text)
}

// checkWallet: what P12.3 says of a text and a language.
func checkWallet(t *testing.T, text string, lang uint32) {
	t.Helper()
	code, ok := colour.Wallet(text, lang)
	if want, is := wantWallet(text, lang); code != want || ok != is {
		t.Errorf("P12.3: Wallet of %s, %X: %s, %v; want %s, %v", brief(text), lang, brief(code), ok, brief(want), is)
	}
	if !ok {
		return
	}
	if sum, spoken, ok := colour.Money(code); sum != text || spoken != lang || !ok {
		t.Errorf("P12.3: Money of Wallet of %s, %X: %s, %X, %v", brief(text), lang, brief(sum), spoken, ok)
	}
}

// spelt: a word with each choice of small and great letters.
func spelt(word string) []string {
	out := []string{""}
	for i := range len(word) {
		low, great := small(word[i:i+1]), strings.ToUpper(word[i:i+1])
		var next []string
		for _, begun := range out {
			next = append(next, begun+low)
			if low != great {
				next = append(next, begun+great)
			}
		}
		out = next
	}
	return out
}

// changed: a text with each of the parts set ahead of, behind, between, and for each of its bytes; and with a byte left out, or told twice.
func changed(text string, parts []string) []string {
	var out []string
	for i := range len(text) + 1 {
		for _, part := range parts {
			out = append(out, text[:i]+part+text[i:])
			if i < len(text) {
				out = append(out, text[:i]+part+text[i+1:])
			}
		}
		if i < len(text) {
			out = append(out, text[:i]+text[i+1:], text[:i+1]+text[i:])
		}
	}
	return out
}

// everyByte: the texts of one byte, and the strange ones.
func everyByte() []string {
	out := append([]string{}, strange...)
	for b := range 256 {
		out = append(out, string([]byte{byte(b)}))
	}
	return out
}

func TestExamples(t *testing.T) {
	if n, ok := colour.Number("RED"); n != 6 || !ok {
		t.Errorf(`P12.1: Number("RED"): %d, %v`, n, ok)
	}
	if sum, lang, ok := colour.Money("$€-407"); sum != "€" || lang != 1031 || !ok {
		t.Errorf(`P12.2: Money("$€-407"): %q, %d, %v`, sum, lang, ok)
	}
	if code, ok := colour.Wallet("€", 1031); code != "$€-407" || !ok {
		t.Errorf(`P12.3: Wallet("€", 1031): %q, %v`, code, ok)
	}
}

func TestNamesOfColours(t *testing.T) {
	for i, name := range []string{"", "Black", "Blue", "Cyan", "Green", "Magenta", "Red", "White", "Yellow", "Color1", "Color2"} {
		if got := colour.Name(i); got != name {
			t.Errorf("P12.1: Name of %d: %q; want %q", i, got, name)
		}
	}
	for n, name := range map[int]string{17: "Color9", 18: "Color10", 63: "Color55", 64: "Color56", 65: ""} {
		if got := colour.Name(n); got != name {
			t.Errorf("P12.1: Name of %d: %q; want %q", n, got, name)
		}
	}
	for n := -300; n <= 600; n++ {
		checkName(t, n)
	}
	for _, far := range []int{math.MinInt, math.MaxInt, math.MinInt32, math.MaxInt32, 1 << 8, 1 << 16, 1 << 32, -1 << 32, 1 << 62} {
		for off := -70; off <= 70; off++ {
			checkName(t, far+off) // past either end the ints wrap round
		}
	}
}

func TestNumberOfEachName(t *testing.T) {
	for n := 1; n <= 64; n++ {
		for _, text := range spelt(wantName(n)) {
			if got, ok := colour.Number(text); got != n || !ok {
				t.Errorf("P12.1: Number of %q: %d, %v; want %d", text, got, ok, n)
			}
		}
		if got, ok := colour.Number(colour.Name(n)); got != n || !ok {
			t.Errorf("P12.1: Number of Name of %d: %d, %v", n, got, ok)
		}
	}
}

func TestTextsNearNames(t *testing.T) {
	parts := append(everyByte(), "Red", "Color", " ", "  ", "00")
	for n := 1; n <= 64; n++ {
		for _, text := range changed(wantName(n), parts) {
			checkText(t, text)
		}
	}
	for _, text := range []string{"", " ", "Orange", "Colour", "Colour1", "Color", "Color 1", "Color-1", "Color+1", "Color1.0", "Color1e1", "Color0x1", "Color1_0", "Rot", "Red Blue", "RedRed", "[Red]", "6", "1", "64", "h", "$", "<0"} {
		checkText(t, text)
	}
}

func TestSignsThatFold(t *testing.T) {
	for _, text := range []string{"blac\u212A", "BLAC\u212A", "\u212A", "\u017F", "\u017F\u017F", "s\u017F", "\u017Fs", "\u017Fss", "Blac\uFF4B", "Whıte", "Whİte", "\xD2ed", "\xF2ed", "\xF3", "\xC8"} {
		if n, ok := colour.Number(text); n != 0 || ok {
			t.Errorf("P12.1: Number of %q: %d, %v", text, n, ok)
		}
		if letter, count, ok := colour.Elapsed(text); letter != "" || count != 0 || ok {
			t.Errorf("P12.2: Elapsed of %q: %q, %d, %v", text, letter, count, ok)
		}
	}
}

func TestColoursByNumbers(t *testing.T) {
	for _, word := range []string{"Color", "COLOR", "color", "cOLOr"} {
		for k := -80; k <= 1200; k++ {
			text := word + strconv.Itoa(k)
			checkNumber(t, text)
			n, ok := colour.Number(text)
			if in := k >= 1 && k <= 56; ok != in || in && n != 8+k {
				t.Errorf("P12.1: Number of %q: %d, %v", text, n, ok)
			}
			for _, nought := range []string{"0", "00", "+", " ", "_", "#"} {
				checkNumber(t, word+nought+strconv.Itoa(k))
				checkNumber(t, word+strconv.Itoa(k)+nought)
			}
		}
		// Of these a number of 8, 32 or 64 bits may be one from 1 to 56.
		for _, k := range []string{"257", "65537", "4294967297", "4294967302", "18446744073709551617", "18446744073709551672", "340282366920938463463374607431768211457", "-4294967295", "-18446744073709551615", "1" + strings.Repeat("0", 400), strings.Repeat("0", 400) + "1"} {
			checkNumber(t, word+k)
		}
	}
}

func TestElapsedUnits(t *testing.T) {
	for _, letter := range []string{"h", "m", "s"} {
		for count := 1; count <= 12; count++ {
			for _, text := range spelt(strings.Repeat(letter, count)) {
				got, many, ok := colour.Elapsed(text)
				if count <= 9 && (got != letter || many != count || !ok) || count > 9 && (got != "" || many != 0 || ok) {
					t.Errorf("P12.2: Elapsed of %q: %q, %d, %v", text, got, many, ok)
				}
			}
		}
		for count := 1; count <= 10; count++ {
			for _, text := range changed(strings.Repeat(letter, count), append(everyByte(), "mm", "  ")) {
				checkText(t, text)
			}
		}
	}
	for _, text := range []string{"", "d", "y", "yy", "n", "hm", "h:mm", "sh", "h ", " h", "hh\n", "0h", "[h]", "AM/PM", "ss.00"} {
		if letter, count, ok := colour.Elapsed(text); letter != "" || count != 0 || ok {
			t.Errorf("P12.2: Elapsed of %q: %q, %d, %v", text, letter, count, ok)
		}
	}
}

func TestMoney(t *testing.T) {
	for _, x := range []struct {
		text, sum string
		lang      uint32
		ok        bool
	}{
		{"$", "", 0, true}, {"$$", "$", 0, true}, {"$EUR", "EUR", 0, true}, {"$€", "€", 0, true}, {"$ ", " ", 0, true}, {"$\n", "\n", 0, true}, {"$a\nb-1", "a\nb", 1, true}, {"$409", "409", 0, true}, {"$+1", "+1", 0, true}, {"$\xFF", "\xFF", 0, true}, {"$\xE2\x82-1", "\xE2\x82", 1, true}, {"$\x00-1", "\x00", 1, true}, {"$\u2212407", "\u2212407", 0, true},
		{"$-0", "", 0, true}, {"$x-0", "x", 0, true}, {"$x-00000000", "x", 0, true}, {"$x-00000001", "x", 1, true}, {"$x-0407", "x", 0x407, true}, {"$x-10000", "x", 0x10000, true}, {"$x-7FFFFFFF", "x", 1<<31 - 1, true}, {"$x-80000000", "x", 1 << 31, true}, {"$x-ffffffff", "x", 1<<32 - 1, true}, {"$x-FFFFFFFF", "x", 1<<32 - 1, true}, {"$-aBcDeF01", "", 0xABCDEF01, true}, {"$$-1", "$", 1, true},
		{"", "", 0, false}, {"x", "", 0, false}, {"€", "", 0, false}, {"-1", "", 0, false}, {"x$", "", 0, false}, {" $", "", 0, false}, {"x$-1", "", 0, false}, {"\uFF04", "", 0, false}, {"\uFE69", "", 0, false}, {"[$x]", "", 0, false},
		{"$-", "", 0, false}, {"$x-", "", 0, false}, {"$--", "", 0, false}, {"$--1", "", 0, false}, {"$-1-", "", 0, false}, {"$x-1-2", "", 0, false}, {"$x-y-1", "", 0, false},
		{"$x-g", "", 0, false}, {"$x-G", "", 0, false}, {"$x-1g", "", 0, false}, {"$x- 1", "", 0, false}, {"$x-1 ", "", 0, false}, {"$x-1\n", "", 0, false}, {"$x-+1", "", 0, false}, {"$x-0x1", "", 0, false}, {"$x-0X1", "", 0, false}, {"$x-1_0", "", 0, false}, {"$x-_1", "", 0, false}, {"$x-1.0", "", 0, false}, {"$x-1h", "", 0, false}, {"$x-\uFF11", "", 0, false}, {"$x-\u0661", "", 0, false}, {"$x-\x00", "", 0, false}, {"$x-\xFF", "", 0, false},
		{"$x-000000000", "", 0, false}, {"$x-000000001", "", 0, false}, {"$x-100000000", "", 0, false}, {"$x-123456789", "", 0, false}, {"$x-FFFFFFFFF", "", 0, false}, {"$x-00000000FFFFFFFF", "", 0, false}, {"$x-10000000000000001", "", 0, false},
	} {
		if sum, lang, ok := colour.Money(x.text); sum != x.sum || lang != x.lang || ok != x.ok {
			t.Errorf("P12.2: Money of %q: %q, %X, %v; want %q, %X, %v", x.text, sum, lang, ok, x.sum, x.lang, x.ok)
		}
		checkText(t, x.text)
	}
}

func TestTextsNearMoney(t *testing.T) {
	parts := append(everyByte(), "--", "-0", "0x", "$$", "00000000")
	for _, text := range []string{"$", "$€", "$-", "$-0", "$x-1", "$EUR-ffFF", "$x-00000407", "$-FFFFFFFF", "$x-123456789", "$a-b-c"} {
		for _, near := range changed(text, parts) {
			checkText(t, near)
		}
	}
	for size := range 20 {
		for _, digit := range "0123456789abcdefgABCDEFGxX_+-. " {
			checkMoney(t, "$x-"+strings.Repeat(string(digit), size))
			checkMoney(t, "$-"+strings.Repeat("0", size)+string(digit))
		}
	}
}

func TestEveryShortText(t *testing.T) {
	parts := []string{"$", "-", "h", "H", "m", "S", "0", "9", "f", "A", "g", "_", "€", "\u017F", "\xFF", "\n"}
	texts := []string{""}
	for range 4 {
		var next []string
		for _, text := range texts {
			for _, part := range parts {
				next = append(next, text+part)
			}
		}
		texts = append(next, "")
		for _, text := range texts {
			checkText(t, text)
		}
	}
}

func TestEveryTwoBytes(t *testing.T) {
	for a := range 256 {
		for b := range 256 {
			text := string([]byte{byte(a), byte(b)})
			checkText(t, text)
			checkMoney(t, "$x-"+text)
		}
	}
}

func TestWallet(t *testing.T) {
	for _, x := range []struct {
		text string
		lang uint32
		want string
		ok   bool
	}{
		{"", 0, "$", true}, {"€", 0, "$€", true}, {"", 1, "$-1", true}, {"€", 0x407, "$€-407", true}, {"x", 9, "$x-9", true}, {"x", 10, "$x-A", true}, {"x", 15, "$x-F", true}, {"x", 16, "$x-10", true}, {"x", 0xABCDEF, "$x-ABCDEF", true}, {"eur", 0xABCDEF01, "$eur-ABCDEF01", true}, {"x", 1<<31 - 1, "$x-7FFFFFFF", true}, {"x", 1 << 31, "$x-80000000", true}, {"x", 1<<32 - 1, "$x-FFFFFFFF", true},
		{"$", 0, "$$", true}, {"$x", 1, "$$x-1", true}, {"ff", 0, "$ff", true}, {"]", 2, "$]-2", true}, {"\xFF", 2, "$\xFF-2", true}, {"a\nb", 2, "$a\nb-2", true}, {"\u2212", 2, "$\u2212-2", true},
		{"-", 0, "", false}, {"-", 1, "", false}, {"a-b", 0, "", false}, {"a-b", 7, "", false}, {"-x", 1, "", false}, {"x-", 0, "", false}, {"x-", 1, "", false}, {"x-407", 0, "", false}, {"€-", 1<<32 - 1, "", false},
	} {
		if code, ok := colour.Wallet(x.text, x.lang); code != x.want || ok != x.ok {
			t.Errorf("P12.3: Wallet of %q, %X: %q, %v; want %q, %v", x.text, x.lang, code, ok, x.want, x.ok)
		}
		checkWallet(t, x.text, x.lang)
	}
}

func TestWalletsOfEachLanguage(t *testing.T) {
	texts := append(everyByte(), "", "EUR", "€ ", "$-", "a-", "-1", "a$b", "0", "ffff")
	var langs []uint32
	for bit := range 32 {
		langs = append(langs, 1<<bit-1, 1<<bit, 1<<bit+1, math.MaxUint32>>bit, math.MaxUint32<<bit, 0xA<<bit, 0xF<<bit)
	}
	for _, text := range texts {
		for _, lang := range langs {
			checkWallet(t, text, lang)
		}
	}
	for lang := range uint32(1 << 16) {
		checkWallet(t, "x", lang)
	}
}

func TestLongTexts(t *testing.T) {
	for _, size := range []int{100, 4096, 32767, 1 << 20} {
		for _, part := range []string{"h", "S", "0", "$", "-", "€", "K", "\u017F", "\u212A", "\xFF"} {
			long := strings.Repeat(part, size)
			for _, text := range []string{long, "Red" + long, "Color1" + long, "Color" + long, "$" + long, "$" + long + "-1", "$x-" + long, "$" + long + "-" + long} {
				checkText(t, text)
			}
			checkWallet(t, long, 0)
			checkWallet(t, long, 0x407)
		}
	}
}

func TestChance(t *testing.T) {
	source := rand.New(rand.NewSource(12))
	parts := append([]string{"$", "$", "-", "-", "Color", "Red", "h", "M", "ss", "1", "56", "7F", "g", "x", " "}, strange...)
	for range 20000 {
		text := ""
		for range 1 + source.Intn(8) {
			text += parts[source.Intn(len(parts))]
		}
		checkText(t, text)
		checkMoney(t, "$"+text)
		checkWallet(t, text, source.Uint32()>>source.Intn(32))
	}
}

func FuzzColour(f *testing.F) {
	for _, text := range []string{"Red", "color56", "hHh", "$€-407", "$x-", "\u212A", ""} {
		f.Add(text, 9, uint32(0x407))
	}
	f.Fuzz(func(t *testing.T, text string, n int, lang uint32) {
		checkText(t, text)
		checkName(t, n)
		checkWallet(t, text, lang)
	})
}
