package cond_test

import (
	"math"
	"math/big"
	"math/rand"
	"regexp"
	"strconv"
	"strings"
	"testing"

	"numerary/bits"
	"numerary/cond"
)

const (
	signBit  = 1 << 63
	infinite = 0x7FF0000000000000
	greatest = infinite - 1
)

// ops has the ways by their signs.
var ops = map[string]cond.Op{"<": cond.Less, "<=": cond.AtMost, ">": cond.More, ">=": cond.AtLeast, "=": cond.Same, "<>": cond.Other}

// all has the signs, in the order of their ways.
var all = []string{"<", "<=", ">", ">=", "=", "<>"}

// noConds: texts that somebody may take for a condition's.
var noConds = []string{
	"", " ", "0", "5", "-5", "<", "<=", "<>", ">", ">=", "=", "<-", "<=-", "=-", "<.", "<-.", "<-.5", "<.5", "<5.", "<-5.", "<5.-", "<5.-5", "<--5", "<5-", "<5-5", "<-5-5", "<+5", "<5+", "<1.2.3", "<1..2", "<..", "<5,0", "<1,000", "<5e3", "<5E3", "<5%", "<5/2", "<1_0", "<0x10", "<#", "<?", "<@", "<x", "<x5", "<5x", "<5.x", "<5.5x", "<5.x5", "<Inf", "<NaN", "<(5)", "<$5", "<'5'", "<\"5\"",
	" <5", "< 5", "<5 ", "<- 5", "<5 .5", "<5. 5", "<\t5", "<5\n", "\n<5", "<5\x00", "<\x005", "[<5]", "<5]", "5<", "5<6", "x<5", "<5;", "<5<6", "<5>", "<5=",
	"<<5", ">>5", "==5", "=<5", "=>5", "><5", "!=5", "<=>5", "<>=5", "<==5", ">==5", "<>>5", "<<>5", "=!5", "~5", "≤5", "≥5", "≠5", "＜5", "<−5", "<\u20135", "<\u00AD5", "<٥", "<5٥", "<５", "<5.５", "<5．5", "<5·5", "<²", "<\xFF", "<5\xFF", "<\xFF5", "<5.\xFF", "\xFF<5", "<\uFEFF5", "<é",
}

// notFinite: values that are no numbers, and such as no bits have.
var notFinite = []bits.Value{
	{Class: bits.Infinite}, {Class: bits.Infinite, Negative: true}, {Class: bits.Nothing},
	{Class: bits.Infinite, Mant: 1}, {Class: bits.Infinite, Mant: 1 << 52, Exp: 972}, {Class: bits.Nothing, Negative: true}, {Class: bits.Nothing, Mant: 1 << 52, Exp: -52},
	{Mant: 1}, {Exp: 1}, {Exp: -1074}, {Negative: true, Mant: 1}, {Mant: 1 << 52, Exp: -52}, {Mant: 1 << 52, Exp: math.MinInt}, {Exp: math.MaxInt},
	{Class: bits.Finite}, {Class: bits.Finite, Negative: true}, {Class: bits.Finite, Exp: -1074}, {Class: bits.Finite, Mant: 5}, {Class: bits.Finite, Mant: 1 << 53}, {Class: bits.Finite, Mant: math.MaxUint64}, {Class: bits.Finite, Mant: 1 << 52, Exp: 972}, {Class: bits.Finite, Mant: 1 << 52, Exp: -1075}, {Class: bits.Finite, Mant: 1 << 52, Exp: math.MaxInt}, {Class: bits.Finite, Negative: true, Mant: 1 << 52, Exp: math.MinInt},
	{Class: -1}, {Class: 4}, {Class: 9}, {Class: 4, Mant: 1 << 52, Exp: -52}, {Class: -1, Negative: true}, {Class: math.MinInt}, {Class: math.MaxInt},
}

// brief: a text, for what is told of it.
func brief(text string) string {
	if len(text) > 90 {
		return strconv.Quote(text[:40]) + " .. " + strconv.Quote(text[len(text)-40:])
	}
	return strconv.Quote(text)
}

// told: a condition, for what is told of it.
func told(c cond.Cond) string {
	return strconv.Itoa(int(c.Op)) + " " + strconv.FormatBool(c.Negative) + " " + brief(c.Whole) + " " + brief(c.Part)
}

// shape is what a condition's text is.
var shape = regexp.MustCompile(`^(<=|>=|<>|<|>|=)(-?)([0-9]{1,30})(?:\.([0-9]{1,30}))?$`)

// aheads and behinds are noughts that a Cond has not.
var (
	aheads  = regexp.MustCompile(`^0*`)
	behinds = regexp.MustCompile(`0*$`)
)

// wantParse: what P13.1 says of Parse.
func wantParse(text string) (cond.Cond, bool) {
	parts := shape.FindStringSubmatch(text)
	if parts == nil {
		return cond.Cond{}, false
	}
	whole, part := aheads.ReplaceAllString(parts[3], ""), behinds.ReplaceAllString(parts[4], "")
	nought := whole == "" && part == ""
	return cond.Cond{Op: ops[parts[1]], Negative: parts[2] == "-" && !nought, Whole: whole, Part: part}, true
}

// wholes and fractions are what a Cond that may be has ahead of the point, and behind it.
var (
	wholes    = regexp.MustCompile(`^([1-9][0-9]{0,29})?$`)
	fractions = regexp.MustCompile(`^([0-9]{0,29}[1-9])?$`)
)

// mayBe: is there a text that is a condition's own?
func mayBe(c cond.Cond) bool {
	nought := c.Whole == "" && c.Part == ""
	return c.Op >= 1 && c.Op <= 6 && wholes.MatchString(c.Whole) && fractions.MatchString(c.Part) && !(c.Negative && nought)
}

// wantText: what P13.1 says of Text.
func wantText(c cond.Cond) (string, bool) {
	if !mayBe(c) {
		return "", false
	}
	text := all[c.Op-1]
	if c.Negative {
		text += "-"
	}
	if c.Whole == "" {
		text += "0"
	}
	text += c.Whole
	if c.Part != "" {
		text += "." + c.Part
	}
	return text, true
}

// numberOf: a condition's number.
func numberOf(c cond.Cond) *big.Rat {
	text := c.Whole
	if text == "" {
		text = "0"
	}
	if c.Part != "" {
		text += "." + c.Part
	}
	r, ok := new(big.Rat).SetString(text)
	if !ok {
		panic(text)
	}
	if c.Negative {
		r.Neg(r)
	}
	return r
}

// wantHolds: what P13.2 says of a condition and bits.
func wantHolds(c cond.Cond, b uint64) bool {
	v := new(big.Rat).SetFloat64(math.Float64frombits(b))
	if v == nil || !mayBe(c) {
		return false
	}
	order := v.Cmp(numberOf(c))
	return [7]bool{cond.Less: order < 0, cond.AtMost: order <= 0, cond.More: order > 0, cond.AtLeast: order >= 0, cond.Same: order == 0, cond.Other: order != 0}[c.Op]
}

// checkParse: what P13.1 and P13.3 say of a text.
func checkParse(t *testing.T, text string) {
	t.Helper()
	c, ok := cond.Parse(text)
	if want, is := wantParse(text); c != want || ok != is {
		t.Errorf("P13.1: Parse of %s: %s, %v; want %s, %v", brief(text), told(c), ok, told(want), is)
	}
	if ok {
		checkText(t, c)
	}
}

// checkText: what P13.1 and P13.3 say of a condition.
func checkText(t *testing.T, c cond.Cond) {
	t.Helper()
	text, ok := c.Text()
	if want, is := wantText(c); text != want || ok != is {
		t.Errorf("P13.1: Text of %s: %s, %v; want %s, %v", told(c), brief(text), ok, brief(want), is)
	}
	if !ok {
		return
	}
	if own, ok := cond.Parse(text); own != c || !ok {
		t.Errorf("P13.3: Parse of Text of %s: %s, %v", told(c), told(own), ok)
	}
}

// checkHolds: what P13.2 says of a condition and bits.
func checkHolds(t *testing.T, c cond.Cond, b uint64) {
	t.Helper()
	if got, want := c.Holds(bits.Of(b)), wantHolds(c, b); got != want {
		t.Errorf("P13.2: %s of %X: %v; want %v", told(c), b, got, want)
	}
}

// checkWays: what P13.2 and P13.3 say of a number's text and bits, in each way.
func checkWays(t *testing.T, number string, b uint64) {
	t.Helper()
	held := map[cond.Op]bool{}
	for i, sign := range all {
		c, ok := cond.Parse(sign + number)
		if !ok {
			t.Fatalf("P13.1: Parse of %s: false", brief(sign+number))
		}
		checkHolds(t, c, b)
		held[cond.Op(1+i)] = c.Holds(bits.Of(b))
	}
	just := 0
	for _, op := range []cond.Op{cond.Less, cond.Same, cond.More} {
		if held[op] {
			just++
		}
	}
	if just != 1 || held[cond.AtLeast] == held[cond.Less] || held[cond.Other] == held[cond.Same] || held[cond.AtMost] == held[cond.More] {
		t.Errorf("P13.3: of %s and %X: %v", brief(number), b, held)
	}
}

// nearBits: the bits nearest to a number's text, with its sign, and those about them; some of each sign.
func nearBits(number string) []uint64 {
	f, _ := strconv.ParseFloat(number, 64)
	b := math.Float64bits(f)
	near := []uint64{0, signBit}
	for off := uint64(0); off < 3; off++ {
		for _, size := range []uint64{b + off, b - off} {
			near = append(near, size, size^signBit)
		}
	}
	return near
}

// changed: a text with each of the parts set ahead of, behind, between, and for each of its bytes; and with a byte left out, or told twice.
func changed(text string, parts []string) []string {
	var out []string
	for i := range len(text) + 1 {
		for _, part := range parts {
			out = append(out, text[:i]+part+text[i:])
			if i < len(text) {
				out = append(out, text[:i]+part+text[i+1:])
			}
		}
		if i < len(text) {
			out = append(out, text[:i]+text[i+1:], text[:i+1]+text[i:])
		}
	}
	return out
}

// everyByte: the texts of one byte.
func everyByte() []string {
	var out []string
	for b := range 256 {
		out = append(out, string([]byte{byte(b)}))
	}
	return out
}

func TestExample(t *testing.T) {
	if c, ok := cond.Parse("<-0.50"); !ok || c != (cond.Cond{Op: cond.Less, Negative: true, Part: "5"}) {
		t.Errorf("P13.1: Parse of <-0.50: %s, %v", told(c), ok)
	}
}

func TestNumbersOfWays(t *testing.T) {
	for i, op := range []cond.Op{cond.Less, cond.AtMost, cond.More, cond.AtLeast, cond.Same, cond.Other} {
		if int(op) != 1+i {
			t.Errorf("the way of %s has the number %d", all[i], op)
		}
	}
}

func TestParseAndText(t *testing.T) {
	nines, noughts := strings.Repeat("9", 30), strings.Repeat("0", 30)
	for i, sign := range all {
		op := cond.Op(1 + i)
		for _, x := range []struct {
			number   string
			negative bool
			whole    string
			part     string
			text     string
		}{
			{"0", false, "", "", "0"}, {"-0", false, "", "", "0"}, {"00", false, "", "", "0"}, {"0.0", false, "", "", "0"}, {"-0.0", false, "", "", "0"}, {"-00.000", false, "", "", "0"}, {noughts, false, "", "", "0"}, {"-" + noughts + "." + noughts, false, "", "", "0"},
			{"1", false, "1", "", "1"}, {"-1", true, "1", "", "-1"}, {"10", false, "10", "", "10"}, {"0010", false, "10", "", "10"}, {"-0010", true, "10", "", "-10"}, {"100.0", false, "100", "", "100"}, {"-100.00", true, "100", "", "-100"}, {"101", false, "101", "", "101"},
			{"0.5", false, "", "5", "0.5"}, {"-0.50", true, "", "5", "-0.5"}, {"00.05", false, "", "05", "0.05"}, {"-0.0100", true, "", "01", "-0.01"}, {"0.101", false, "", "101", "0.101"}, {"0.10", false, "", "1", "0.1"},
			{"12.34", false, "12", "34", "12.34"}, {"-0120.0340", true, "120", "034", "-120.034"}, {"10.01", false, "10", "01", "10.01"}, {"9.90", false, "9", "9", "9.9"},
			{nines, false, nines, "", nines}, {"-" + nines + "." + nines, true, nines, nines, "-" + nines + "." + nines}, {"0." + nines, false, "", nines, "0." + nines}, {noughts[1:] + "7", false, "7", "", "7"}, {"7." + noughts, false, "7", "", "7"}, {"-0." + noughts[1:] + "7", true, "", noughts[1:] + "7", "-0." + noughts[1:] + "7"}, {"7" + noughts[1:], false, "7" + noughts[1:], "", "7" + noughts[1:]}, {"0.7" + noughts[1:], false, "", "7", "0.7"},
		} {
			want := cond.Cond{Op: op, Negative: x.negative, Whole: x.whole, Part: x.part}
			if c, ok := cond.Parse(sign + x.number); c != want || !ok {
				t.Errorf("P13.1: Parse of %s: %s, %v; want %s", sign+x.number, told(c), ok, told(want))
			}
			if text, ok := want.Text(); text != sign+x.text || !ok {
				t.Errorf("P13.1: Text of %s: %q, %v; want %q", told(want), text, ok, sign+x.text)
			}
			checkParse(t, sign+x.number)
		}
	}
}

func TestTextsOfNoCondition(t *testing.T) {
	for _, text := range noConds {
		if c, ok := cond.Parse(text); c != (cond.Cond{}) || ok {
			t.Errorf("P13.1: Parse of %s: %s, %v", brief(text), told(c), ok)
		}
		checkParse(t, text)
		for _, sign := range all {
			checkParse(t, sign+text)
			checkParse(t, text+sign)
		}
	}
}

func TestCountsOfDigits(t *testing.T) {
	for _, sign := range all {
		for size := range 65 {
			for _, digit := range []string{"0", "1", "9"} {
				side := strings.Repeat(digit, size)
				for _, text := range []string{sign + side, sign + "-" + side, sign + "0" + side, sign + side + "5", sign + "0." + side, sign + "-0." + side, sign + side + ".5", sign + side + ".", sign + side + "." + side, sign + "5." + side + "5", sign + "5." + side + "0", sign + side + "." + strings.Repeat("7", 31)} {
					checkParse(t, text)
					_, ok := cond.Parse(text)
					if size == 0 && text == sign+side && ok || size > 30 && ok {
						t.Errorf("P13.1: Parse of %s: true", brief(text))
					}
				}
				for _, text := range []string{sign + side, sign + "-" + side + ".0", sign + "0." + side, sign + side + "." + side} {
					if _, ok := cond.Parse(text); ok != (size >= 1 && size <= 30) {
						t.Errorf("P13.1: Parse of %s, %d digits: %v", brief(text), size, ok)
					}
				}
			}
		}
	}
}

func TestTextsNearConditions(t *testing.T) {
	parts := append(everyByte(), "00", "--", "..", "<=", "<>", ">=", ".0", "-0", "é", "\u0665", "\uFF15", "\u2212")
	for _, sign := range all {
		for _, number := range []string{"0", "-0", "5", "-5", "07.50", "-12.034"} {
			for _, text := range changed(sign+number, parts) {
				checkParse(t, text)
			}
		}
		for _, text := range changed(sign+strings.Repeat("9", 30)+"."+strings.Repeat("9", 30), []string{"", "0", "9", ".", "-", " "}) {
			checkParse(t, text)
		}
	}
}

func TestEveryShortText(t *testing.T) {
	parts := []string{"<", ">", "=", "-", ".", "0", "7", "x"}
	texts := []string{""}
	for range 6 {
		var next []string
		for _, text := range texts {
			for _, part := range parts {
				next = append(next, text+part)
			}
		}
		texts = next
		for _, text := range texts {
			checkParse(t, text)
		}
	}
}

func TestEveryTwoBytes(t *testing.T) {
	for a := range 256 {
		for b := range 256 {
			text := string([]byte{byte(a), byte(b)})
			for _, whole := range []string{text, text + "5", "<" + text, "<5" + text, "<=" + text + ".5", "<5." + text} {
				checkParse(t, whole)
			}
		}
	}
}

func TestLongTexts(t *testing.T) {
	for _, size := range []int{100, 4096, 32767, 1 << 20} {
		for _, part := range []string{"0", "9", "-", ".", "<", "=", "<>", " ", "é", "\xFF"} {
			long := strings.Repeat(part, size)
			for _, text := range []string{long, "<" + long, "<=-" + long, "<5" + long, "<5." + long, "<" + long + ".5", "<" + long + "." + long, long + "<5"} {
				checkParse(t, text)
			}
			for _, c := range []cond.Cond{{Op: cond.Less, Whole: long}, {Op: cond.Less, Part: long}, {Op: cond.Same, Whole: long, Part: long}, {Op: cond.Other, Negative: true, Whole: "1", Part: long + "1"}} {
				checkText(t, c)
				if c.Holds(bits.Of(0)) || c.Holds(bits.Of(signBit|1)) {
					t.Errorf("P13.2: %s holds", told(c))
				}
			}
		}
	}
}

// sides: what may stand ahead of a point or behind it in a Cond, and what may not.
func sides() []string {
	nines, noughts := strings.Repeat("9", 30), strings.Repeat("0", 30)
	return []string{
		"", "0", "00", "1", "5", "05", "50", "050", "10", "01", "101", "0001", "1000", nines, nines[1:], nines + "9", nines + "0", "0" + nines, "0" + nines[1:], nines[1:] + "0", noughts, noughts + "1", "1" + noughts, noughts[1:] + "1", "1" + noughts[1:],
		"-", "-5", "5-", "+5", " ", " 5", "5 ", "5\n", "\x00", "x", "5x", "x5", ".", ".5", "5.", "5.5", "1.2.3", "=", "=5", ">5", "<5", "<=5", "1e3", "1_0", "0x1", "٥", "５", "é", "\xFF", "5\xFF", "/", ":", "1/", "1:",
	}
}

func TestEachCondition(t *testing.T) {
	odd := []cond.Op{math.MinInt, math.MinInt + 1, math.MinInt32, -7, -6, -1, 0, 1, 2, 3, 4, 5, 6, 7, 8, 9, 12, 13, 255, 256, 257, 1<<32 + 1, math.MaxInt32, math.MaxInt - 1, math.MaxInt}
	values := []uint64{0, signBit, 1, signBit | 1, math.Float64bits(5), math.Float64bits(-5), math.Float64bits(0.5), greatest, greatest | signBit}
	for _, op := range odd {
		for _, whole := range sides() {
			for _, part := range sides() {
				for _, negative := range []bool{false, true} {
					c := cond.Cond{Op: op, Negative: negative, Whole: whole, Part: part}
					checkText(t, c)
					if !mayBe(c) {
						for _, b := range values {
							if c.Holds(bits.Of(b)) {
								t.Errorf("P13.2: %s, which may not be, holds of %X", told(c), b)
							}
						}
					}
				}
			}
		}
	}
}

func TestConditionsThatMayNotBe(t *testing.T) {
	for _, c := range []cond.Cond{
		{}, {Whole: "5"}, {Op: 7}, {Op: -1, Whole: "5"}, {Op: 7, Whole: "5"}, {Op: math.MinInt, Whole: "5"}, {Op: math.MaxInt, Whole: "5"},
		{Op: cond.Other, Negative: true}, {Op: cond.Less, Negative: true}, {Op: cond.AtMost, Whole: "0"}, {Op: cond.AtMost, Part: "0"}, {Op: cond.AtMost, Whole: "05"}, {Op: cond.AtMost, Part: "50"}, {Op: cond.AtMost, Whole: "0", Part: "5"},
		{Op: cond.AtMost, Whole: strings.Repeat("9", 31)}, {Op: cond.More, Part: strings.Repeat("9", 31)}, {Op: cond.More, Whole: "1" + strings.Repeat("0", 30)},
		// Of these what would be written is a text of another one, or of none.
		{Op: cond.Less, Whole: "=5"}, {Op: cond.Less, Whole: ">5"}, {Op: cond.More, Whole: "=5"}, {Op: cond.Less, Whole: "-5"}, {Op: cond.Less, Whole: "5.5"}, {Op: cond.Less, Whole: "5.5", Part: "5"}, {Op: cond.Less, Whole: "x"}, {Op: cond.Less, Part: "-5"}, {Op: cond.Less, Whole: "5", Part: "."},
	} {
		if text, ok := c.Text(); text != "" || ok {
			t.Errorf("P13.1: Text of %s: %q, %v", told(c), text, ok)
		}
		for _, f := range []float64{0, math.Copysign(0, -1), 1, -1, 5, -5, 5.5, 1e300, -1e300} {
			if c.Holds(bits.Of(math.Float64bits(f))) {
				t.Errorf("P13.2: %s, which may not be, holds of %v", told(c), f)
			}
		}
	}
}

func TestHolds(t *testing.T) {
	nought := math.Copysign(0, -1)
	for _, x := range []struct {
		number string
		f      float64
		order  int
	}{
		{"0", 0, 0}, {"0", nought, 0}, {"-0", 0, 0}, {"-0.00", nought, 0}, {"0", math.SmallestNonzeroFloat64, 1}, {"0", -math.SmallestNonzeroFloat64, -1}, {"0", math.MaxFloat64, 1}, {"0", -math.MaxFloat64, -1},
		{"5", 5, 0}, {"5", -5, -1}, {"-5", 5, 1}, {"-5", -5, 0}, {"5", 0, -1}, {"5", nought, -1}, {"-5", 0, 1}, {"-5", nought, 1}, {"5", 4, -1}, {"5", 6, 1}, {"-5", -4, 1}, {"-5", -6, -1}, {"5", -6, -1}, {"-5", 4, 1},
		{"0.5", 0.5, 0}, {"-0.5", -0.5, 0}, {"0.25", 0.25, 0}, {"0.375", 0.375, 0}, {"1234.5", 1234.5, 0}, {"05.50", 5.5, 0}, {"5.05", 5.5, 1}, {"100", 100, 0}, {"100", 10, -1}, {"10", 100, 1},
		{"0.1", 0.1, 1}, {"-0.1", -0.1, -1}, {"0.3", 0.3, -1}, {"-0.3", -0.3, 1}, {"0.2", 0.2, 1}, {"1.1", 1.1, 1}, {"2.675", 2.675, -1}, {"0.1", -0.1, -1}, {"-0.1", 0.1, 1},
		{"9007199254740992", 9007199254740992, 0}, {"9007199254740993", 9007199254740992, -1}, {"9007199254740991", 9007199254740992, 1}, {"-9007199254740993", -9007199254740992, 1}, {"18446744073709551616", 1 << 64, 0}, {"18446744073709551615", 1 << 64, 1}, {"18446744073709551617", 1 << 64, -1},
		{"10000000000000000000000", 1e22, 0}, {"100000000000000000000000", 1e23, -1}, {"99999999999999991611392", 1e23, 0}, {"999999999999999999999999999999", 1e30, 1}, {"-999999999999999999999999999999", -1e30, -1},
		{"0.000000000000000000000000000001", 1e-30, 1}, {"0.000000000000000000000000000001", math.SmallestNonzeroFloat64, -1}, {"-0.000000000000000000000000000001", -math.SmallestNonzeroFloat64, 1}, {"0.000000000931322574615478515625", 1.0 / (1 << 30), 0}, {"-0.000000000931322574615478515625", -1.0 / (1 << 30), 0}, {"0.999999999999999999999999999999", 1, 1}, {"1.000000000000000000000000000001", 1, -1}, {"-1.000000000000000000000000000001", -1, 1},
		{"999999999999999999999999999999.999999999999999999999999999999", math.MaxFloat64, 1}, {"-999999999999999999999999999999.999999999999999999999999999999", -math.MaxFloat64, -1},
	} {
		for i, sign := range all {
			c, _ := cond.Parse(sign + x.number)
			want := []bool{x.order < 0, x.order <= 0, x.order > 0, x.order >= 0, x.order == 0, x.order != 0}[i]
			if got := c.Holds(bits.Of(math.Float64bits(x.f))); got != want {
				t.Errorf("P13.2: %s of %v: %v; want %v", sign+x.number, x.f, got, want)
			}
		}
		checkWays(t, x.number, math.Float64bits(x.f))
	}
}

func TestHoldsOfNoNumber(t *testing.T) {
	for _, v := range notFinite {
		for _, sign := range all {
			for _, number := range []string{"0", "5", "-5", "0.5", "-0.5", strings.Repeat("9", 30), "-" + strings.Repeat("9", 30)} {
				c, ok := cond.Parse(sign + number)
				if !ok || c.Holds(v) {
					t.Errorf("P13.2: %s holds of %+v", sign+number, v)
				}
			}
		}
	}
	for _, b := range []uint64{infinite, infinite | signBit, infinite + 1, infinite + 1<<51, infinite + 1<<51 | signBit, math.MaxUint64, math.MaxInt64} {
		for _, sign := range all {
			for _, number := range []string{"0", "5", "-5"} {
				c, _ := cond.Parse(sign + number)
				checkHolds(t, c, b)
			}
		}
	}
}

func TestHoldsOfEachExponent(t *testing.T) {
	numbers := []string{"0", "0.5", "-1", "3", "4503599627370496.5", "999999999999999999999999999999.999999999999999999999999999999", "-0.000000000000000000000000000001"}
	for exponent := range uint64(2047) {
		for _, fraction := range []uint64{0, 1, 1 << 51, 1<<52 - 1} {
			for i, number := range numbers {
				if i%4 == int(exponent%4) || exponent > 900 && exponent < 1130 {
					checkWays(t, number, exponent<<52|fraction)
					checkWays(t, number, signBit|exponent<<52|fraction)
				}
			}
		}
	}
}

func TestHoldsNearNumbers(t *testing.T) {
	source := rand.New(rand.NewSource(13))
	digits := func(size int) string {
		text := ""
		for range size {
			text += string("0123456789"[source.Intn(10)])
		}
		return text
	}
	for range 1500 {
		number := digits(1 + source.Intn(30))
		if source.Intn(3) > 0 {
			number += "." + digits(1+source.Intn(30))
		}
		if source.Intn(2) == 0 {
			number = "-" + number
		}
		for _, b := range nearBits(number) {
			if b&^signBit < infinite {
				checkWays(t, number, b)
			}
		}
	}
}

func TestHoldsOfExactNumbers(t *testing.T) {
	// Of these the text is the value itself, and a last digit more or less makes it another one.
	for k := range 31 {
		f := 1 + math.Ldexp(1, -k)
		text := strconv.FormatFloat(f, 'f', 30, 64)
		for _, number := range []string{text, text[:len(text)-1] + "1"} {
			checkWays(t, number, math.Float64bits(f))
			checkWays(t, "-"+number, math.Float64bits(-f))
		}
		if c, _ := cond.Parse("=" + text); !c.Holds(bits.Of(math.Float64bits(f))) {
			t.Errorf("P13.2: =%s doesn't hold of it", text)
		}
	}
	for k := range 30 {
		n := new(big.Int).Exp(big.NewInt(10), big.NewInt(int64(k)), nil)
		for off := int64(-2); off <= 2; off++ {
			number := new(big.Int).Add(n, big.NewInt(off)).String()
			for _, b := range nearBits(number) {
				if b&^signBit < infinite {
					checkWays(t, number, b)
				}
			}
		}
	}
}

func TestSmallNumbersAgainstEachOther(t *testing.T) {
	for a := -40; a <= 40; a++ {
		for b := -40; b <= 40; b++ {
			number := strconv.FormatFloat(float64(a)/8, 'f', -1, 64)
			checkWays(t, number, math.Float64bits(float64(b)/8))
		}
	}
}

func TestNothingIsKept(t *testing.T) {
	one, _ := cond.Parse("<5")
	other, _ := cond.Parse(">=-7.25")
	for range 3 {
		checkHolds(t, one, math.Float64bits(4))
		checkHolds(t, other, math.Float64bits(-8))
		cond.Parse("<<")
		cond.Cond{Op: 9}.Holds(bits.Of(0))
	}
	if one != (cond.Cond{Op: cond.Less, Whole: "5"}) || other != (cond.Cond{Op: cond.AtLeast, Negative: true, Whole: "7", Part: "25"}) {
		t.Errorf("Rule 7: changed by calls: %s, %s", told(one), told(other))
	}
}

func FuzzCond(f *testing.F) {
	for _, text := range []string{"<-0.50", "<>0", ">=007.25", "<.5", "=-0", ""} {
		f.Add(text, uint64(0x3FB999999999999A), 2, true, "7", "25")
	}
	f.Fuzz(func(t *testing.T, text string, b uint64, op int, negative bool, whole, part string) {
		checkParse(t, text)
		c, _ := cond.Parse(text)
		checkHolds(t, c, b)
		c = cond.Cond{Op: cond.Op(op), Negative: negative, Whole: whole, Part: part}
		checkText(t, c)
		checkHolds(t, c, b)
	})
}
