package short_test

import (
	"math"
	"math/big"
	"math/rand"
	"strconv"
	"strings"
	"testing"

	"numerary/round"
	"numerary/short"
)

const (
	mostDigits = 400
	mostExp    = 5000
	signBit    = 1 << 63
	infinite   = 0x7FF0000000000000
	greatest   = infinite - 1
)

// notFinite: bits of all other classes.
var notFinite = []uint64{0, signBit, infinite, infinite | signBit, infinite + 1, infinite + 1<<51, infinite + 1<<51 + 1, infinite + 1<<51 | signBit, 0x7FFFFFFFFFFFFFFF, infinite + 1 | signBit, math.MaxUint64}

// awry: Scis that may not be.
var awry = []round.Sci{
	{}, {Exp: 1}, {Exp: -1},
	{Digits: "0"}, {Digits: "00"}, {Digits: "01"}, {Digits: "0", Exp: -1}, {Digits: "05", Exp: 3},
	{Digits: "a"}, {Digits: "1a"}, {Digits: "a1"}, {Digits: "1a1"}, {Digits: "12 "}, {Digits: " 12"}, {Digits: "1.2"}, {Digits: "+1"}, {Digits: "-1"}, {Digits: "1_0"}, {Digits: "1e5"}, {Digits: "1/"}, {Digits: "1:"}, {Digits: "/1"}, {Digits: ":1"}, {Digits: "1\x00"}, {Digits: "\x001"}, {Digits: "1\xff"}, {Digits: "1é"}, {Digits: "١"}, {Digits: "1１"}, {Digits: "Inf"}, {Digits: "0x1"},
	{Digits: "1", Exp: 5001}, {Digits: "1", Exp: -5001}, {Digits: "1", Exp: math.MaxInt}, {Digits: "1", Exp: math.MaxInt - 1}, {Digits: "1", Exp: math.MinInt}, {Digits: "1", Exp: math.MinInt + 1}, {Digits: "1", Exp: math.MaxInt32}, {Digits: "1", Exp: math.MinInt32}, {Digits: "12", Exp: 5001}, {Digits: "12", Exp: -5001}, {Digits: strings.Repeat("7", 400), Exp: 5001}, {Digits: strings.Repeat("7", 400), Exp: -5001},
	{Digits: strings.Repeat("7", 401)}, {Digits: strings.Repeat("7", 402), Exp: 5}, {Digits: "1" + strings.Repeat("0", 400)}, {Digits: strings.Repeat("7", 100000)}, {Digits: "0" + strings.Repeat("7", 399)}, {Digits: "0" + strings.Repeat("7", 400)}, {Digits: strings.Repeat("7", 399) + "x"}, {Digits: strings.Repeat("7", 401), Exp: 5001},
}

// tenTo: 10 to k, which may be below 0.
func tenTo(k int) *big.Rat {
	r := new(big.Rat).SetInt(new(big.Int).Exp(big.NewInt(10), big.NewInt(int64(max(k, -k))), nil))
	if k < 0 {
		r.Inv(r)
	}
	return r
}

// valueOf: the value of Finite bits, without its sign.
func valueOf(b uint64) *big.Rat {
	return new(big.Rat).SetFloat64(math.Abs(math.Float64frombits(b)))
}

// numberOf: the number of a Sci.
func numberOf(t *testing.T, s round.Sci) *big.Rat {
	t.Helper()
	n, ok := new(big.Int).SetString(s.Digits, 10)
	if !ok {
		t.Fatalf("%q is no number", s.Digits)
	}
	return new(big.Rat).Mul(new(big.Rat).SetInt(n), tenTo(s.Exp-len(s.Digits)+1))
}

// expOf: the Exp of m, which isn't 0.
func expOf(m *big.Rat) int {
	f, _ := m.Float64()
	exp := int(math.Floor(math.Log10(f)))
	for m.Cmp(tenTo(exp)) < 0 {
		exp--
	}
	for m.Cmp(tenTo(exp+1)) >= 0 {
		exp++
	}
	return exp
}

// rounded: m rounded to so many digits. The library rounds half away from 0, too.
func rounded(m *big.Rat, exp, count int) round.Sci {
	text := strings.Replace(new(big.Rat).Mul(m, tenTo(-exp)).FloatString(count-1), ".", "", 1)
	if len(text) > count {
		return round.Sci{Digits: text[:count], Exp: exp + 1}
	}
	return round.Sci{Digits: text, Exp: exp}
}

// parsed: the bits nearest to s, by the library.
func parsed(t *testing.T, s round.Sci) uint64 {
	t.Helper()
	f, err := strconv.ParseFloat(s.Digits+"e"+strconv.Itoa(s.Exp-len(s.Digits)+1), 64)
	if err != nil && !math.IsInf(f, 1) {
		t.Fatalf("%q, %d: %v", s.Digits, s.Exp, err)
	}
	return math.Float64bits(f)
}

// brief: a text, for what is told of it.
func brief(text string) string {
	text = strconv.Quote(text)
	if len(text) > 60 {
		text = text[:25] + " .. " + text[len(text)-25:]
	}
	return text
}

// told: a Sci, for what is told of it.
func told(s round.Sci) string {
	return brief(s.Digits) + ", " + strconv.Itoa(s.Exp)
}

// wantDigits: what P10.1 says that Digits of Finite bits is.
func wantDigits(t *testing.T, b uint64) round.Sci {
	t.Helper()
	m := valueOf(b)
	exp := expOf(m)
	for count := 1; count <= 17; count++ {
		if s := rounded(m, exp, count); parsed(t, s) == b&^signBit {
			return s
		}
	}
	t.Fatalf("P10.3: no count of digits up to 17 tells %X", b)
	return round.Sci{}
}

// wantFifteen: what P10.1 says that Fifteen of Finite bits is.
func wantFifteen(b uint64) round.Sci {
	m := valueOf(b)
	s := rounded(m, expOf(m), 15)
	s.Digits = s.Digits[:1] + strings.TrimRight(s.Digits[1:], "0")
	return s
}

// checkBits: what P10.1 and P10.3 say of bits.
func checkBits(t *testing.T, b uint64) {
	t.Helper()
	if b&^signBit == 0 || b&^signBit >= infinite {
		checkNone(t, b)
		return
	}
	s, ok := short.Digits(b)
	if want := wantDigits(t, b); s != want || !ok {
		t.Errorf("P10.1: Digits of %X: %s, %v; want %s", b, told(s), ok, told(want))
	}
	if len(s.Digits) > 17 {
		t.Errorf("P10.3: Digits of %X: %s", b, told(s))
	}
	if back, ok := short.Back(s); back != b&^signBit || !ok {
		t.Errorf("P10.3: Back of Digits of %X: %X, %v", b, back, ok)
	}
	if s, ok := short.Fifteen(b); s != wantFifteen(b) || !ok {
		t.Errorf("P10.1: Fifteen of %X: %s, %v; want %s", b, told(s), ok, told(wantFifteen(b)))
	}
}

// checkValue: what P10.1 and P10.3 say of bits, with either sign.
func checkValue(t *testing.T, b uint64) {
	t.Helper()
	checkBits(t, b&^signBit)
	checkBits(t, b|signBit)
}

// checkNone: what P10.1 says of bits that aren't Finite.
func checkNone(t *testing.T, b uint64) {
	t.Helper()
	if s, ok := short.Digits(b); ok || s != (round.Sci{}) {
		t.Errorf("P10.1: Digits of %X: %s, %v", b, told(s), ok)
	}
	if s, ok := short.Fifteen(b); ok || s != (round.Sci{}) {
		t.Errorf("P10.1: Fifteen of %X: %s, %v", b, told(s), ok)
	}
}

// checkBack: what P10.2 says of Back of a Sci that may be.
func checkBack(t *testing.T, s round.Sci) {
	t.Helper()
	if b, ok := short.Back(s); b != parsed(t, s) || !ok {
		t.Errorf("P10.2: Back of %s: %X, %v; want %X", told(s), b, ok, parsed(t, s))
	}
}

// checkPlain: what P10.2 says of Plain of a Sci that may be. As many places as the number has tell it wholly.
func checkPlain(t *testing.T, s round.Sci) {
	t.Helper()
	places := max(len(s.Digits)-1-s.Exp, 0)
	want := numberOf(t, s).FloatString(places)
	if places > 0 {
		want = strings.TrimRight(strings.TrimRight(want, "0"), ".")
	}
	if text, ok := short.Plain(s); text != want || !ok {
		t.Errorf("P10.2: Plain of %s: %s, %v; want %s", told(s), brief(text), ok, brief(want))
	}
}

// checkRefused: what P10.2 says of a Sci that may not be.
func checkRefused(t *testing.T, s round.Sci) {
	t.Helper()
	if b, ok := short.Back(s); b != 0 || ok {
		t.Errorf("P10.2: Back of %s: %X, %v", told(s), b, ok)
	}
	if text, ok := short.Plain(s); text != "" || ok {
		t.Errorf("P10.2: Plain of %s: %s, %v", told(s), brief(text), ok)
	}
}

func TestExamples(t *testing.T) {
	s, ok := short.Digits(math.Float64bits(0.1))
	if s != (round.Sci{Digits: "1", Exp: -1}) || !ok {
		t.Errorf("P10.1: Digits of 0.1: %s, %v", told(s), ok)
	}
	if text, ok := short.Plain(s); text != "0.1" || !ok {
		t.Errorf("P10.2: Plain of that: %q, %v", text, ok)
	}
}

func TestDigits(t *testing.T) {
	for _, x := range []struct {
		b      uint64
		digits string
		exp    int
	}{
		{math.Float64bits(1), "1", 0}, {math.Float64bits(-1.5), "15", 0}, {math.Float64bits(9), "9", 0}, {math.Float64bits(10), "1", 1}, {math.Float64bits(-100), "1", 2}, {math.Float64bits(1000), "1", 3}, {math.Float64bits(120), "12", 2}, {math.Float64bits(1e22), "1", 22}, {math.Float64bits(1e23), "1", 23}, {math.Float64bits(1e300), "1", 300}, {math.Float64bits(9.5), "95", 0}, {math.Float64bits(99.5), "995", 1},
		{math.Float64bits(0.1), "1", -1}, {math.Float64bits(-0.1), "1", -1}, {math.Float64bits(0.2), "2", -1}, {math.Float64bits(0.3), "3", -1}, {0x3FD3333333333334, "30000000000000004", -1}, {math.Float64bits(0.25), "25", -1}, {math.Float64bits(0.001), "1", -3}, {math.Float64bits(1.005), "1005", 0}, {0x3FD5555555555555, "3333333333333333", -1}, {0x3FE5555555555555, "6666666666666666", -1}, {math.Float64bits(math.Pi), "3141592653589793", 0},
		{0x3FEFFFFFFFFFFFFF, "9999999999999999", -1}, {0x3FF0000000000001, "10000000000000002", 0}, {0x4023FFFFFFFFFFFF, "9999999999999998", 0}, {0x4024000000000001, "10000000000000002", 1}, {0x4340000000000000, "9007199254740992", 15}, {0x433FFFFFFFFFFFFF, "9007199254740991", 15}, {0x4340000000000001, "9007199254740994", 15}, {0x44B52D02C7E14AF6, "1", 23}, {0x44B52D02C7E14AF7, "10000000000000001", 23}, {0x44B52D02C7E14AF5, "9999999999999997", 22},
		{1, "5", -324}, {2, "1", -323}, {3, "15", -323}, {4, "2", -323}, {5, "25", -323}, {20, "1", -322}, {signBit | 1, "5", -324}, {1<<52 - 1, "2225073858507201", -308}, {1 << 52, "22250738585072014", -308}, {greatest, "17976931348623157", 308}, {greatest - 1, "17976931348623155", 308}, {greatest | signBit, "17976931348623157", 308},
	} {
		if s, ok := short.Digits(x.b); s != (round.Sci{Digits: x.digits, Exp: x.exp}) || !ok {
			t.Errorf("P10.1: Digits of %X: %s, %v; want %q, %d", x.b, told(s), ok, x.digits, x.exp)
		}
		checkValue(t, x.b)
	}
}

func TestDigitsAreRounded(t *testing.T) {
	// Other digits, as few as 16, would lead back to these powers of two; but they aren't what the value is rounded to.
	for _, x := range []struct {
		b      uint64
		digits string
		exp    int
	}{
		{0x0060000000000000, "71202363472230444", -307}, {0x0100000000000000, "72911220195563975", -304}, {0x13E0000000000000, "59409111446723744", -213},
	} {
		if s, ok := short.Digits(x.b); s != (round.Sci{Digits: x.digits, Exp: x.exp}) || !ok {
			t.Errorf("P10.1: Digits of %X: %s, %v; want %q, %d", x.b, told(s), ok, x.digits, x.exp)
		}
	}
}

func TestLeastCount(t *testing.T) {
	// With a lesser count these powers of two are met again, with 16 digits they aren't: the rounding goes down then, where the next value is nearer.
	for _, b := range []uint64{0x17A0000000000000, 0x1C60000000000000, 0x20C0000000000000, 0x4940000000000000, 0x6E30000000000000, 0x7790000000000000, 0x7BB0000000000000, 0x7C50000000000000} {
		m := valueOf(b)
		if parsed(t, rounded(m, expOf(m), 16)) == b {
			t.Errorf("%X isn't such a one", b)
		}
		if s, ok := short.Digits(b); len(s.Digits) > 15 || !ok {
			t.Errorf("P10.1: Digits of %X: %s, %v; want 15 of them at most", b, told(s), ok)
		}
		checkValue(t, b)
	}
}

func TestFifteen(t *testing.T) {
	for _, x := range []struct {
		b      uint64
		digits string
		exp    int
	}{
		{math.Float64bits(1), "1", 0}, {math.Float64bits(-1.5), "15", 0}, {math.Float64bits(10000), "1", 4}, {math.Float64bits(10500), "105", 4}, {math.Float64bits(0.1), "1", -1}, {math.Float64bits(-0.1), "1", -1}, {math.Float64bits(0.3), "3", -1}, {0x3FD3333333333334, "3", -1}, {math.Float64bits(1e300), "1", 300},
		{0x4340000000000000, "900719925474099", 15}, {0x3FD5555555555555, "333333333333333", -1}, {0x3FE5555555555555, "666666666666667", -1}, {0x3FEFFFFFFFFFFFFF, "1", 0}, {0x3FF0000000000001, "1", 0}, {0x4023FFFFFFFFFFFF, "1", 1}, {math.Float64bits(math.Pi), "314159265358979", 0},
		{math.Float64bits(999999999999999), "999999999999999", 14}, {math.Float64bits(9999999999999990), "999999999999999", 15}, {math.Float64bits(9999999999999994), "999999999999999", 15}, {math.Float64bits(9999999999999996), "1", 16}, {math.Float64bits(100000000000001), "100000000000001", 14}, {math.Float64bits(1000000000000001), "1", 15}, {math.Float64bits(1000000000000005), "100000000000001", 15}, {math.Float64bits(1000000000000015), "100000000000002", 15}, {math.Float64bits(1000000000000025), "100000000000003", 15}, {math.Float64bits(1000000000000004), "1", 15}, {math.Float64bits(9999999999999995), "1", 16},
		{1, "494065645841247", -324}, {2, "988131291682493", -324}, {3, "148219693752374", -323}, {1 << 52, "22250738585072", -308}, {1<<52 - 1, "22250738585072", -308}, {greatest, "179769313486232", 308}, {greatest | signBit, "179769313486232", 308},
	} {
		if s, ok := short.Fifteen(x.b); s != (round.Sci{Digits: x.digits, Exp: x.exp}) || !ok {
			t.Errorf("P10.1: Fifteen of %X: %s, %v; want %q, %d", x.b, told(s), ok, x.digits, x.exp)
		}
	}
}

func TestNotFinite(t *testing.T) {
	for _, b := range notFinite {
		checkNone(t, b)
	}
}

func TestBack(t *testing.T) {
	half := "17976931348623158079372897140530341507993413271003782693617377898044496829276475094664901797758720709633028641669288791094655554785194040263065748867150582068190890200070838367627385484581771153176447573027006985557136695962284291481986083493647529271907416844436551070434271155969950809304288"
	ones, most := strings.Repeat("1", mostDigits), strings.Repeat("9", mostDigits)
	for _, x := range []struct {
		s round.Sci
		b uint64
	}{
		{round.Sci{Digits: "1"}, math.Float64bits(1)}, {round.Sci{Digits: "15"}, math.Float64bits(1.5)}, {round.Sci{Digits: "1", Exp: -1}, math.Float64bits(0.1)}, {round.Sci{Digits: "1000", Exp: -1}, math.Float64bits(0.1)}, {round.Sci{Digits: "123", Exp: 2}, math.Float64bits(123)}, {round.Sci{Digits: "123", Exp: 1}, math.Float64bits(12.3)}, {round.Sci{Digits: "123", Exp: 4}, math.Float64bits(12300)}, {round.Sci{Digits: "9"}, math.Float64bits(9)},
		{round.Sci{Digits: "9007199254740993", Exp: 15}, 0x4340000000000000}, {round.Sci{Digits: "9007199254740995", Exp: 15}, 0x4340000000000002}, {round.Sci{Digits: "90071992547409930000000000000001", Exp: 15}, 0x4340000000000001}, {round.Sci{Digits: "90071992547409929999999999999999", Exp: 15}, 0x4340000000000000},
		{round.Sci{Digits: "1", Exp: 309}, infinite}, {round.Sci{Digits: "1", Exp: 308}, math.Float64bits(1e308)}, {round.Sci{Digits: "17976931348623157", Exp: 308}, greatest}, {round.Sci{Digits: "17976931348623158", Exp: 308}, greatest}, {round.Sci{Digits: "17976931348623159", Exp: 308}, infinite}, {round.Sci{Digits: half, Exp: 308}, greatest}, {round.Sci{Digits: half + "9", Exp: 308}, infinite}, {round.Sci{Digits: "1", Exp: mostExp}, infinite}, {round.Sci{Digits: most, Exp: mostExp}, infinite},
		{round.Sci{Digits: "5", Exp: -324}, 1}, {round.Sci{Digits: "4", Exp: -324}, 1}, {round.Sci{Digits: "3", Exp: -324}, 1}, {round.Sci{Digits: "24703282292062327", Exp: -324}, 0}, {round.Sci{Digits: "24703282292062328", Exp: -324}, 1}, {round.Sci{Digits: "2", Exp: -324}, 0}, {round.Sci{Digits: "1", Exp: -324}, 0}, {round.Sci{Digits: "1", Exp: -323}, 2}, {round.Sci{Digits: "9", Exp: -325}, 0}, {round.Sci{Digits: "1", Exp: -mostExp}, 0}, {round.Sci{Digits: most, Exp: -mostExp}, 0},
		{round.Sci{Digits: most, Exp: 0}, math.Float64bits(10)}, {round.Sci{Digits: most, Exp: 307}, math.Float64bits(1e308)}, {round.Sci{Digits: ones, Exp: 399}, infinite}, {round.Sci{Digits: ones, Exp: 0}, math.Float64bits(10.0 / 9)}, {round.Sci{Digits: ones, Exp: -1}, math.Float64bits(1.0 / 9)},
	} {
		if b, ok := short.Back(x.s); b != x.b || !ok {
			t.Errorf("P10.2: Back of %s: %X, %v; want %X", told(x.s), b, ok, x.b)
		}
		checkBack(t, x.s)
	}
}

func TestPlain(t *testing.T) {
	for _, x := range []struct {
		digits string
		exp    int
		want   string
	}{
		{"1", 0, "1"}, {"9", 0, "9"}, {"1", 1, "10"}, {"1", 2, "100"}, {"1", -1, "0.1"}, {"1", -2, "0.01"}, {"1", -3, "0.001"}, {"7", 10, "70000000000"}, {"7", -10, "0.0000000007"},
		{"10", 0, "1"}, {"10", 1, "10"}, {"10", 2, "100"}, {"10", -1, "0.1"}, {"100", 0, "1"}, {"100", 1, "10"}, {"100", 2, "100"}, {"100", 3, "1000"}, {"100", -2, "0.01"}, {"1000000", 3, "1000"},
		{"12", 0, "1.2"}, {"12", 1, "12"}, {"12", 2, "120"}, {"12", 4, "12000"}, {"12", -1, "0.12"}, {"12", -3, "0.0012"}, {"1200", 0, "1.2"}, {"1200", 1, "12"}, {"1200", 2, "120"}, {"1200", 3, "1200"}, {"1230", -3, "0.00123"}, {"98", 0, "9.8"},
		{"101", 0, "1.01"}, {"101", 1, "10.1"}, {"1010", 0, "1.01"}, {"1010", 1, "10.1"}, {"1010", 2, "101"}, {"1001", 1, "10.01"}, {"1001", 2, "100.1"}, {"100100", 2, "100.1"}, {"100100", 3, "1001"}, {"10001", 0, "1.0001"}, {"123456789", 4, "12345.6789"}, {"1234567890", 8, "123456789"}, {"1234567890", 7, "12345678.9"},
	} {
		s := round.Sci{Digits: x.digits, Exp: x.exp}
		if text, ok := short.Plain(s); text != x.want || !ok {
			t.Errorf("P10.2: Plain of %s: %s, %v; want %s", told(s), brief(text), ok, brief(x.want))
		}
		checkPlain(t, s)
	}
}

func TestPlainAtTheEnds(t *testing.T) {
	noughts := func(count int) string { return strings.Repeat("0", count) }
	most := strings.Repeat("9", mostDigits)
	for _, x := range []struct {
		digits string
		exp    int
		want   string
	}{
		{"1", mostExp, "1" + noughts(5000)}, {"12", mostExp, "12" + noughts(4999)}, {most, mostExp, most + noughts(4601)}, {"1", -mostExp, "0." + noughts(4999) + "1"}, {most, -mostExp, "0." + noughts(4999) + most}, {"1" + noughts(399), -mostExp, "0." + noughts(4999) + "1"},
		{most, 398, most[:399] + ".9"}, {most, 399, most}, {most, 400, most + "0"}, {most, 0, "9." + most[:399]}, {most, -1, "0." + most}, {"1" + noughts(399), 0, "1"}, {"1" + noughts(399), 398, "1" + noughts(398)}, {"1" + noughts(398) + "1", 398, "1" + noughts(398) + ".1"}, {"1" + noughts(398) + "1", 0, "1." + noughts(398) + "1"},
	} {
		s := round.Sci{Digits: x.digits, Exp: x.exp}
		if text, ok := short.Plain(s); text != x.want || !ok {
			t.Errorf("P10.2: Plain of %s: %s, %v; want %s", told(s), brief(text), ok, brief(x.want))
		}
		checkPlain(t, s)
		checkBack(t, s)
	}
}

func TestMayNotBe(t *testing.T) {
	for _, s := range awry {
		checkRefused(t, s)
	}
	for c := range 256 {
		for _, text := range []string{string([]byte{byte(c)}), string([]byte{'1', byte(c)}), string([]byte{byte(c), '1'}), string([]byte{'1', byte(c), '1'})} {
			s := round.Sci{Digits: text, Exp: 1}
			if c < '0' || c > '9' || text[0] == '0' {
				checkRefused(t, s)
				continue
			}
			checkBack(t, s)
			checkPlain(t, s)
		}
	}
}

func TestEachCountAndExp(t *testing.T) {
	source := rand.New(rand.NewSource(10))
	for count := 1; count <= mostDigits+2; count++ {
		for _, exp := range []int{-mostExp, -330, -1, 0, 1, count - 2, count - 1, count, 300, mostExp} {
			s := round.Sci{Digits: chance(source, count), Exp: exp}
			if count > mostDigits {
				checkRefused(t, s)
				continue
			}
			checkBack(t, s)
			checkPlain(t, s)
		}
	}
	for exp := -mostExp - 2; exp <= mostExp+2; exp++ {
		s := round.Sci{Digits: chance(source, 1+source.Intn(20)), Exp: exp}
		if exp < -mostExp || exp > mostExp {
			checkRefused(t, s)
			continue
		}
		checkBack(t, s)
		if exp%7 == 0 {
			checkPlain(t, s)
		}
	}
}

// chance: so many digits, the first one not a nought, some of them with noughts at their end.
func chance(source *rand.Rand, count int) string {
	text := make([]byte, count)
	shown := 1 + source.Intn(count)
	for i := range text {
		text[i] = '0'
		if i < shown {
			text[i] += byte(source.Intn(10))
		}
	}
	text[0] = '1' + byte(source.Intn(9))
	return string(text)
}

func TestPowersOfTwo(t *testing.T) {
	for exponent := uint64(1); exponent < 2047; exponent++ {
		checkBits(t, exponent<<52)
		// The neighbours of some, since they take long.
		if exponent%7 == 0 {
			checkBits(t, exponent<<52-1|signBit)
			checkBits(t, exponent<<52+1)
		}
	}
	for k := range 52 {
		checkValue(t, 1<<k)
		checkValue(t, 1<<k+1)
		checkValue(t, 1<<k-1)
	}
}

func TestPowersOfTen(t *testing.T) {
	for k := -323; k <= 308; k++ {
		f, _ := tenTo(k).Float64()
		b := math.Float64bits(f)
		if s, ok := short.Digits(b); s != (round.Sci{Digits: "1", Exp: k}) || !ok {
			t.Errorf("P10.1: Digits of 1e%d: %s, %v", k, told(s), ok)
		}
		checkBits(t, b)
		checkBits(t, b-1)
		checkBits(t, b+1)
	}
}

func TestHalves(t *testing.T) {
	// Quotients by powers of two, such as 2 to -24, that have 17 digits, the last one a 5: with 16 they are just between two, and the greater one is taken.
	ties := 0
	for k := 20; k <= 30; k++ {
		for m := uint64(1); m < 1200; m += 2 {
			b := math.Float64bits(math.Ldexp(float64(m), -k))
			value := valueOf(b)
			if exact := rounded(value, expOf(value), 17); numberOf(t, exact).Cmp(value) == 0 && exact.Digits[16] == '5' {
				ties++
				checkValue(t, b)
			}
		}
	}
	if ties < 100 {
		t.Errorf("only %d halves were met", ties)
	}
	if s, ok := short.Digits(math.Float64bits(math.Ldexp(1, -24))); s != (round.Sci{Digits: "5960464477539063", Exp: -8}) || !ok {
		t.Errorf("P10.1: Digits of 2 to -24: %s, %v", told(s), ok)
	}
}

func TestChance(t *testing.T) {
	source := rand.New(rand.NewSource(100))
	for range 600 {
		checkBits(t, source.Uint64())
		checkBits(t, source.Uint64()>>(12+source.Intn(52)))
		checkBits(t, math.Float64bits(float64(source.Int63n(1e9))/1000))
		checkBits(t, math.Float64bits(float64(source.Int63())))
		checkBits(t, math.Float64bits(source.NormFloat64()))
	}
}

func TestBackOfMiddles(t *testing.T) {
	// Digits that tell the middle between two values wholly, or nearly.
	source := rand.New(rand.NewSource(1000))
	for range 3000 {
		b := math.Float64bits(math.Ldexp(1+source.Float64(), source.Intn(200)-100))
		middle := new(big.Rat).Add(valueOf(b), valueOf(b+1))
		middle.Mul(middle, big.NewRat(1, 2))
		for _, count := range []int{17, 18, 40, mostDigits} {
			s := rounded(middle, expOf(middle), count)
			checkBack(t, s)
			last := len(s.Digits) - 1
			if s.Digits[last] > '0' {
				checkBack(t, round.Sci{Digits: s.Digits[:last] + string(s.Digits[last]-1), Exp: s.Exp})
			}
			if s.Digits[last] < '9' {
				checkBack(t, round.Sci{Digits: s.Digits[:last] + string(s.Digits[last]+1), Exp: s.Exp})
			}
		}
	}
}

func FuzzShort(f *testing.F) {
	f.Add(uint64(1), "1", 0)
	f.Add(math.Float64bits(0.1), "1200", -3)
	f.Add(uint64(greatest), "9007199254740993", 15)
	f.Add(uint64(infinite), "05", 5001)
	f.Add(uint64(0x17A0000000000000), "24703282292062328", -324)
	f.Fuzz(func(t *testing.T, b uint64, digits string, exp int) {
		checkValue(t, b)
		s := round.Sci{Digits: digits, Exp: exp}
		right := digits != "" && len(digits) <= mostDigits && digits[0] != '0' && exp >= -mostExp && exp <= mostExp
		for _, c := range []byte(digits) {
			right = right && c >= '0' && c <= '9'
		}
		if !right {
			checkRefused(t, s)
			return
		}
		checkBack(t, s)
		checkPlain(t, s)
	})
}
