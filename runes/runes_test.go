package runes_test

import (
	"math"
	"slices"
	"strings"
	"testing"
	"unicode/utf8"

	"numerary/runes"
)

// edges: the least and the greatest sign of each size, those around the hole, and some between.
var edges = []struct {
	sign int
	text string
}{
	{0, "\x00"}, {0x61, "a"}, {0x7F, "\x7F"},
	{0x80, "\xC2\x80"}, {0xE9, "é"}, {0x7FF, "\xDF\xBF"},
	{0x800, "\xE0\xA0\x80"}, {0x20AC, "€"}, {0xD7FF, "\xED\x9F\xBF"}, {0xE000, "\xEE\x80\x80"}, {0xFFFD, "\xEF\xBF\xBD"}, {0xFFFF, "\xEF\xBF\xBF"},
	{0x10000, "\xF0\x90\x80\x80"}, {0x1F600, "\xF0\x9F\x98\x80"}, {0x10FFFF, "\xF4\x8F\xBF\xBF"},
}

// faulty: texts at whose beginning there is no sign.
var faulty = []struct {
	why, text string
}{
	{"nothing there", ""},
	{"least byte that only follows", "\x80"}, {"greatest byte that only follows", "\xBF"}, {"one ahead of a sign", "\x80a"},
	{"first byte of five", "\xF8\x88\x80\x80\x80"}, {"first byte of six", "\xFC\x84\x80\x80\x80\x80"}, {"FE", "\xFE"}, {"FF", "\xFF\xFF\xFF\xFF"},
	{"two cut off", "\xC3"}, {"three cut off after one", "\xE2"}, {"three cut off after two", "\xE2\x82"},
	{"four cut off after one", "\xF0"}, {"four cut off after two", "\xF0\x9F"}, {"four cut off after three", "\xF0\x9F\x98"},
	{"two broken off", "\xC3a"}, {"three broken off", "\xE2\x82a"}, {"four broken off", "\xF0\x9F\x98a"},
	{"next byte too great", "\xC3\xC0"}, {"second byte wrong, third right", "\xE2a\x82"}, {"second byte wrong, others right", "\xF0\xC0\x98\x80"},
	{"0 in two", "\xC0\x80"}, {"7F in two", "\xC1\xBF"},
	{"0 in three", "\xE0\x80\x80"}, {"7F in three", "\xE0\x81\xBF"}, {"7FF in three", "\xE0\x9F\xBF"},
	{"0 in four", "\xF0\x80\x80\x80"}, {"FFFF in four", "\xF0\x8F\xBF\xBF"},
	{"D800", "\xED\xA0\x80"}, {"DBFF", "\xED\xAF\xBF"}, {"DC00", "\xED\xB0\x80"}, {"DFFF", "\xED\xBF\xBF"}, {"D800 in four", "\xF0\x8D\xA0\x80"},
	{"110000", "\xF4\x90\x80\x80"}, {"13FFFF", "\xF4\xBF\xBF\xBF"}, {"140000", "\xF5\x80\x80\x80"}, {"1FFFFF", "\xF7\xBF\xBF\xBF"},
}

func checkFirst(t *testing.T, promise, s string, sign, size int, ok bool) {
	t.Helper()
	if gotSign, gotSize, gotOK := runes.First(s); gotSign != sign || gotSize != size || gotOK != ok {
		t.Errorf("%s: First(%q) = %X, %d, %v; want %X, %d, %v", promise, s, gotSign, gotSize, gotOK, sign, size, ok)
	}
}

func checkText(t *testing.T, sign int, text string, ok bool) {
	t.Helper()
	if got, gotOK := runes.Text(sign); got != text || gotOK != ok {
		t.Errorf("P1.1: Text(%X) = %q, %v; want %q, %v", sign, got, gotOK, text, ok)
	}
}

func checkAll(t *testing.T, promise, s string, signs []int, end int, ok bool) {
	t.Helper()
	got, gotEnd, gotOK := runes.All(s)
	if !slices.Equal(got, signs) || gotEnd != end || gotOK != ok {
		t.Errorf("%s: All(%q) = %X, %d, %v; want %X, %d, %v", promise, s, got, gotEnd, gotOK, signs, end, ok)
	}
	if right := runes.Right(s); right != ok {
		t.Errorf("%s: Right(%q) = %v; want %v", promise, s, right, ok)
	}
}

func TestTextAndFirstAtEdges(t *testing.T) {
	for _, e := range edges {
		checkText(t, e.sign, e.text, true)
		for _, behind := range []string{"", "z", "é", "\x80", "\xFF"} {
			checkFirst(t, "P1.1", e.text+behind, e.sign, len(e.text), true)
		}
	}
}

func TestTextOfNoSign(t *testing.T) {
	for n := 0xD800; n <= 0xDFFF; n++ {
		checkText(t, n, "", false)
	}
	for _, n := range []int{-1, -0x80, 0x110000, 0x1FFFFF, 0x200000, math.MaxInt32, math.MinInt32, math.MaxInt, math.MinInt, math.MinInt + 0x61} {
		checkText(t, n, "", false)
	}
}

func TestTextOfEveryNumber(t *testing.T) {
	for n := -0x100; n <= 0x110100; n++ {
		r := rune(n)
		if !utf8.ValidRune(r) {
			checkText(t, n, "", false)
			continue
		}
		checkText(t, n, string(r), true)
		checkFirst(t, "P1.1", string(r), n, utf8.RuneLen(r), true)
	}
}

func TestFirstOfNoSign(t *testing.T) {
	for _, f := range faulty {
		if sign, size, ok := runes.First(f.text); sign != 0 || size != 0 || ok {
			t.Errorf("P1.1: %s: First(%q) = %X, %d, %v", f.why, f.text, sign, size, ok)
		}
	}
}

func TestFirstOfCutSigns(t *testing.T) {
	for _, e := range edges {
		for size := range len(e.text) {
			checkFirst(t, "P1.1", e.text[:size], 0, 0, false)
		}
	}
}

// told is what the library's reader of UTF-8 says of a text's beginning, in First's words.
func told(s string) (int, int, bool) {
	r, size := utf8.DecodeRuneInString(s)
	if r == utf8.RuneError && size <= 1 {
		return 0, 0, false
	}
	return int(r), size, true
}

func TestFirstOfEveryTwoBytes(t *testing.T) {
	for a := range 256 {
		for b := range 256 {
			s := string([]byte{byte(a), byte(b)})
			sign, size, ok := told(s)
			checkFirst(t, "P1.1", s, sign, size, ok)
		}
	}
}

func TestFirstOfManyFourBytes(t *testing.T) {
	turns := []byte{0x00, 0x7F, 0x80, 0x81, 0x8F, 0x90, 0x9F, 0xA0, 0xBF, 0xC0, 0xFF}
	for a := range 256 {
		for _, b := range turns {
			for _, c := range turns {
				for _, d := range turns {
					s := string([]byte{byte(a), b, c, d})
					sign, size, ok := told(s)
					checkFirst(t, "P1.1", s, sign, size, ok)
				}
			}
		}
	}
}

func TestAllOfSigns(t *testing.T) {
	checkAll(t, "P1.2", "", nil, 0, true)
	checkAll(t, "P1.2", "aé€\U0001F600", []int{0x61, 0xE9, 0x20AC, 0x1F600}, 10, true)
	checkAll(t, "P1.2", "\x00\x00", []int{0, 0}, 2, true)
	checkAll(t, "P1.2", "\uFFFD", []int{0xFFFD}, 3, true)
	checkAll(t, "P1.2", "\uFEFFa", []int{0xFEFF, 0x61}, 4, true)
}

func TestAllOfFaults(t *testing.T) {
	for _, f := range faulty[1:] {
		for _, ahead := range []string{"", "a", "é", "a€\U0001F600"} {
			checkAll(t, "P1.2", ahead+f.text, nil, len(ahead), false)
			checkAll(t, "P1.2", ahead+f.text+"b", nil, len(ahead), false)
			checkAll(t, "P1.2", ahead+f.text+"\xFF", nil, len(ahead), false)
		}
	}
}

func TestAllOfLongTexts(t *testing.T) {
	const times = 1 << 18
	long := strings.Repeat("a€", times)
	signs := slices.Repeat([]int{0x61, 0x20AC}, times)
	if got, end, ok := runes.All(long); !slices.Equal(got, signs) || end != len(long) || !ok || !runes.Right(long) {
		t.Errorf("P1.2: a long text: %d signs, %d, %v", len(got), end, ok)
	}
	if got, end, ok := runes.All(long + "\xE2\x82"); len(got) != 0 || end != len(long) || ok || runes.Right(long+"\xE2\x82") {
		t.Errorf("P1.2: a long text cut off: %d signs, %d, %v", len(got), end, ok)
	}
}

func TestAllAnswersNewMemory(t *testing.T) {
	first, _, _ := runes.All("ab")
	second, _, _ := runes.All("ab")
	first[0] = 0
	_ = append(first, 0)
	if third, _, _ := runes.All("ab"); !slices.Equal(second, []int{0x61, 0x62}) || !slices.Equal(third, second) {
		t.Errorf("P1.2: answers share memory: %X, %X", second, third)
	}
}

func TestAllTellsTextsPutTogether(t *testing.T) {
	for _, a := range edges {
		for _, b := range edges {
			for _, c := range edges {
				s, whole := "", true
				signs := []int{a.sign, b.sign, c.sign}
				for _, sign := range signs {
					text, ok := runes.Text(sign)
					s, whole = s+text, whole && ok
				}
				if !whole {
					t.Fatalf("P1.3: no Text of one of %X", signs)
				}
				checkAll(t, "P1.3", s, signs, len(s), true)
			}
		}
	}
}

// checkNoOthers: either s is the Texts of what All tells of it, or All tells nothing and where the signs ahead end.
func checkNoOthers(t *testing.T, s string) {
	t.Helper()
	signs, end, ok := runes.All(s)
	if ok != utf8.ValidString(s) || ok != runes.Right(s) {
		t.Errorf("P1.3: All(%q) says %v, Right %v", s, ok, runes.Right(s))
	}
	if !ok {
		_, _, more := runes.First(s[end:])
		if len(signs) != 0 || more || !utf8.ValidString(s[:end]) {
			t.Errorf("P1.3: All(%q) = %X, %d, false", s, signs, end)
		}
		return
	}
	var again strings.Builder
	for _, sign := range signs {
		text, _ := runes.Text(sign)
		again.WriteString(text)
	}
	if again.String() != s || end != len(s) {
		t.Errorf("P1.3: All(%q) = %X, %d, whose Texts are %q", s, signs, end, again.String())
	}
}

func TestAllTellsNoOthers(t *testing.T) {
	turns := "\x00a\x7F\x80\x8F\x90\x9F\xA0\xBF\xC0\xC1\xC2\xDF\xE0\xED\xEF\xF0\xF4\xF5\xFF"
	level := []string{""}
	for range 4 {
		var next []string
		for _, s := range level {
			for i := range len(turns) {
				next = append(next, s+turns[i:i+1])
			}
		}
		for _, s := range next {
			checkNoOthers(t, s)
		}
		level = next
	}
}

func FuzzAll(f *testing.F) {
	for _, e := range edges {
		f.Add("a" + e.text)
	}
	for _, x := range faulty {
		f.Add("é" + x.text)
	}
	f.Fuzz(checkNoOthers)
}
