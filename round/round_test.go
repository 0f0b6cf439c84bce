package round_test

import (
	"encoding/binary"
	"math"
	"math/big"
	"math/rand"
	"slices"
	"strings"
	"testing"

	"numerary/api"
	"numerary/bits"
	"numerary/nat"
	"numerary/ratio"
	"numerary/round"
)

const (
	mostDigits = 400
	mostExp    = 5000
	greatest   = 0x7FEFFFFFFFFFFFFF
)

// tooFew, tooMany: counts that are out of any range here.
var (
	tooFew  = []int{math.MinInt, math.MinInt + 1, math.MinInt32, -401, -400, -2, -1}
	tooMany = []int{401, 402, 5000, math.MaxInt32, math.MaxInt - 1, math.MaxInt}
)

// terms: numbers at which a term's size turns, and powers of ten with their neighbours.
var terms = []*big.Int{
	big.NewInt(0), big.NewInt(1), big.NewInt(2), big.NewInt(3), big.NewInt(7), big.NewInt(8), big.NewInt(9), big.NewInt(10), big.NewInt(11), big.NewInt(99), big.NewInt(100), big.NewInt(1000),
	big.NewInt(math.MaxUint32), big.NewInt(1 << 32), big.NewInt(math.MaxInt64), power(2, 64, -1), power(2, 64, 0), power(2, 100, 0), power(3, 70, 0), power(5, 60, 0),
	power(10, 19, -1), power(10, 19, 0), power(10, 19, 1), power(10, 30, -1), power(10, 30, 0), power(10, 30, 1),
}

// power: n to k, and more.
func power(n, k, more int64) *big.Int {
	p := new(big.Int).Exp(big.NewInt(n), big.NewInt(k), nil)
	return p.Add(p, big.NewInt(more))
}

// tenTo: 10 to k, which may be below 0.
func tenTo(k int) *big.Rat {
	r := new(big.Rat).SetInt(power(10, int64(max(k, -k)), 0))
	if k < 0 {
		r.Inv(r)
	}
	return r
}

// bigOf is the number of limbs, put together by the library.
func bigOf(limbs []uint32) *big.Int {
	var b []byte
	for _, limb := range slices.Backward(limbs) {
		b = binary.BigEndian.AppendUint32(b, limb)
	}
	return new(big.Int).SetBytes(b)
}

// natOf: the Nat of n.
func natOf(n *big.Int) nat.Nat {
	bytes := n.FillBytes(make([]byte, (n.BitLen()+31)/32*4))
	var limbs []uint32
	for ; len(bytes) > 0; bytes = bytes[:len(bytes)-4] {
		limbs = append(limbs, binary.BigEndian.Uint32(bytes[len(bytes)-4:]))
	}
	return nat.Made(limbs)
}

// short: a number, for what is told of it.
func short(r *big.Rat) string {
	s := r.String()
	if len(s) <= 120 {
		return s
	}
	return s[:50] + " .. " + s[len(s)-50:]
}

// of: the quotient m.
func of(t *testing.T, m *big.Rat) ratio.Ratio {
	t.Helper()
	r, ok := ratio.Of(natOf(m.Num()), natOf(m.Denom()))
	if !ok {
		t.Fatalf("P8.1: Of %s: false", short(m))
	}
	return r
}

// parsed: the quotient that a text is, such as 2.345 or 7/3 or 1e300.
func parsed(t *testing.T, s string) *big.Rat {
	t.Helper()
	m, ok := new(big.Rat).SetString(s)
	if !ok {
		t.Fatalf("%s is no number", s)
	}
	return m
}

// times: the product.
func times(a, b *big.Rat) *big.Rat {
	return new(big.Rat).Mul(a, b)
}

// checkSame: r is to be want.
func checkSame(t *testing.T, what string, r ratio.Ratio, want *big.Rat) {
	t.Helper()
	num, den := r.Terms()
	if nat.Cmp(num, natOf(want.Num())) != 0 || nat.Cmp(den, natOf(want.Denom())) != 0 {
		t.Errorf("%s: %X / %X; want %s", what, bigOf(num.Limbs()), bigOf(den.Limbs()), short(want))
	}
}

// checkAt: what P9.1 says of r, which is to be m, at so many places. The library rounds half away from 0, too.
func checkAt(t *testing.T, r ratio.Ratio, m *big.Rat, places int) {
	t.Helper()
	whole, part, _ := strings.Cut(m.FloatString(places), ".")
	if whole == "0" {
		whole = ""
	}
	if fixed, ok := round.At(r, places); !ok || fixed != (round.Fixed{Whole: whole, Part: part}) {
		t.Errorf("P9.1: At of %s and %d: %q, %v; want %q and %q", short(m), places, fixed, ok, whole, part)
	}
}

// expOf: the Exp of m, which isn't 0, by the decimals that the library has of it.
func expOf(m *big.Rat) int {
	if whole := new(big.Int).Quo(m.Num(), m.Denom()); whole.Sign() != 0 {
		return len(whole.String()) - 1
	}
	// Of a number below 1 its inverse is one above 1: below, or just, a power of ten.
	whole, rest := new(big.Int).QuoRem(m.Denom(), m.Num(), new(big.Int))
	text := whole.String()
	if rest.Sign() == 0 && strings.Trim(text[1:], "0") == "" && text[0] == '1' {
		return 1 - len(text)
	}
	return -len(text)
}

// checkExp: what P9.2 says of r, which is to be m.
func checkExp(t *testing.T, r ratio.Ratio, m *big.Rat) {
	t.Helper()
	exp, ok := round.Exp(r)
	if m.Sign() == 0 {
		if exp != 0 || ok {
			t.Errorf("P9.2: Exp of 0: %d, %v", exp, ok)
		}
		return
	}
	want := expOf(m)
	if want < -mostExp || want > mostExp {
		if exp != 0 || ok {
			t.Errorf("P9.2: Exp of %s: %d, %v; want false, for it is %d", short(m), exp, ok, want)
		}
		return
	}
	if exp != want || !ok {
		t.Errorf("P9.2: Exp of %s: %d, %v; want %d", short(m), exp, ok, want)
	}
}

// checkTo: what P9.2 says of r, which is to be m, at so many digits; m's Exp is within the range.
func checkTo(t *testing.T, r ratio.Ratio, m *big.Rat, digits int) {
	t.Helper()
	exp := expOf(m)
	text := strings.Replace(times(m, tenTo(-exp)).FloatString(digits-1), ".", "", 1)
	if len(text) > digits {
		text, exp = text[:digits], exp+1
	}
	if sci, ok := round.To(r, digits); !ok || sci != (round.Sci{Digits: text, Exp: exp}) {
		t.Errorf("P9.2: To of %s and %d: %q, %d, %v; want %q, %d", short(m), digits, sci.Digits, sci.Exp, ok, text, exp)
	}
}

// checkNear: what To answers is as near to m as so many digits allow, whatever way it was found.
func checkNear(t *testing.T, r ratio.Ratio, m *big.Rat, digits int) {
	t.Helper()
	sci, ok := round.To(r, digits)
	if !ok || len(sci.Digits) != digits || sci.Digits[0] < '1' || sci.Digits[0] > '9' {
		t.Errorf("P9.2: To of %s and %d: %q, %d, %v", short(m), digits, sci.Digits, sci.Exp, ok)
		return
	}
	near := times(new(big.Rat).SetInt(parsed(t, sci.Digits).Num()), tenTo(sci.Exp-digits+1))
	gap := near.Sub(near, m)
	half := times(tenTo(expOf(m)-digits+1), big.NewRat(1, 2))
	if gap.Cmp(half) > 0 || gap.Cmp(half.Neg(half)) <= 0 {
		t.Errorf("P9.2: To of %s and %d: %q, %d is too far", short(m), digits, sci.Digits, sci.Exp)
	}
}

// checkStep: what P9.1 says of r and step, which are to be m and n, the latter not 0.
func checkStep(t *testing.T, r, step ratio.Ratio, m, n *big.Rat) {
	t.Helper()
	// The greatest multiple that isn't above m and half a step.
	high := new(big.Rat).Add(m, times(n, big.NewRat(1, 2)))
	count := high.Quo(high, n)
	want := new(big.Rat).SetInt(new(big.Int).Quo(count.Num(), count.Denom()))
	near, ok := round.Step(r, step)
	if !ok {
		t.Errorf("P9.1: Step of %s and %s: false", short(m), short(n))
	}
	checkSame(t, "P9.1: Step of "+short(m)+" and "+short(n), near, want.Mul(want, n))
}

// checkAll: what P9.1 and P9.2 say of m, at so many places and digits.
func checkAll(t *testing.T, m *big.Rat, places, digits int) {
	t.Helper()
	r := of(t, m)
	checkAt(t, r, m, places)
	checkExp(t, r, m)
	if m.Sign() != 0 && max(expOf(m), -expOf(m)) <= mostExp {
		checkTo(t, r, m, digits)
		checkNear(t, r, m, digits)
	}
	checkSame(t, "P2: the number, after all", r, m)
}

func TestExamples(t *testing.T) {
	if fixed, ok := round.At(of(t, parsed(t, "2.345")), 2); !ok || fixed != (round.Fixed{Whole: "2", Part: "35"}) {
		t.Errorf("P9.1: At of 2.345 and 2: %q, %v", fixed, ok)
	}
	if sci, ok := round.To(of(t, parsed(t, "999.96")), 4); !ok || sci != (round.Sci{Digits: "1000", Exp: 3}) {
		t.Errorf("P9.2: To of 999.96 and 4: %v, %v", sci, ok)
	}
}

func TestAt(t *testing.T) {
	for _, x := range []struct {
		r           string
		places      int
		whole, part string
	}{
		{"0", 0, "", ""}, {"0", 1, "", "0"}, {"0", 5, "", "00000"},
		{"1", 0, "1", ""}, {"1", 1, "1", "0"}, {"10", 0, "10", ""}, {"10", 3, "10", "000"}, {"100", 2, "100", "00"}, {"9", 0, "9", ""},
		{"1/2", 0, "1", ""}, {"0.49", 0, "", ""}, {"0.4999999999999999999999", 0, "", ""}, {"0.5000000000000000000001", 0, "1", ""}, {"0.99", 0, "1", ""}, {"1.5", 0, "2", ""}, {"2.5", 0, "3", ""}, {"3.5", 0, "4", ""}, {"1.4999", 0, "1", ""},
		{"0.05", 1, "", "1"}, {"0.04999", 1, "", "0"}, {"0.15", 1, "", "2"}, {"0.25", 1, "", "3"}, {"0.35", 1, "", "4"}, {"0.95", 1, "1", "0"}, {"0.94", 1, "", "9"},
		{"9.5", 0, "10", ""}, {"99.5", 0, "100", ""}, {"99.49", 0, "99", ""}, {"9.995", 2, "10", "00"}, {"9.994", 2, "9", "99"}, {"999.9999", 3, "1000", "000"}, {"999.9994", 3, "999", "999"},
		{"0.1", 1, "", "1"}, {"0.1", 2, "", "10"}, {"0.1", 3, "", "100"}, {"0.01", 2, "", "01"}, {"0.01", 1, "", "0"}, {"0.001", 3, "", "001"}, {"0.0004", 3, "", "000"}, {"0.0005", 3, "", "001"},
		{"1/3", 4, "", "3333"}, {"2/3", 4, "", "6667"}, {"2/3", 0, "1", ""}, {"1/3", 0, "", ""}, {"1/7", 6, "", "142857"}, {"1000/7", 3, "142", "857"}, {"1.005", 2, "1", "01"}, {"1.00499", 2, "1", "00"},
		{"10.01", 2, "10", "01"}, {"1010.0101", 4, "1010", "0101"}, {"123456789012345678901234567890.5", 0, "123456789012345678901234567891", ""},
		{"99999999999999999999999999999.95", 1, "100000000000000000000000000000", "0"}, {"1e30", 2, "1000000000000000000000000000000", "00"}, {"1e-30", 2, "", "00"}, {"1e-30", 30, "", "000000000000000000000000000001"}, {"5e-31", 30, "", "000000000000000000000000000001"}, {"49e-32", 30, "", "000000000000000000000000000000"},
	} {
		m := parsed(t, x.r)
		if fixed, ok := round.At(of(t, m), x.places); !ok || fixed != (round.Fixed{Whole: x.whole, Part: x.part}) {
			t.Errorf("P9.1: At of %s and %d: %q, %v; want %q and %q", x.r, x.places, fixed, ok, x.whole, x.part)
		}
	}
}

func TestAtEachCountOfPlaces(t *testing.T) {
	for _, s := range []string{"0", "1", "2/3", "1/7", "99/100", "12345.678", "1e-399", "5e-401", "4e-401", "5e-400", "1e400", "999e-400"} {
		m := parsed(t, s)
		r := of(t, m)
		for places := range mostDigits + 1 {
			checkAt(t, r, m, places)
		}
	}
	for places := range mostDigits + 1 {
		// Just half a last place, and a little less; and what goes up to the next whole number, and just doesn't.
		half := times(tenTo(-places), big.NewRat(1, 2))
		little := tenTo(-600)
		for _, m := range []*big.Rat{half, new(big.Rat).Sub(half, little), new(big.Rat).Sub(big.NewRat(10, 1), half), new(big.Rat).Sub(new(big.Rat).Sub(big.NewRat(10, 1), half), little)} {
			checkAt(t, of(t, m), m, places)
		}
	}
}

func TestAtWrongPlaces(t *testing.T) {
	for _, m := range []*big.Rat{new(big.Rat), big.NewRat(1, 1), big.NewRat(2, 3), tenTo(6000), tenTo(-6000)} {
		r := of(t, m)
		for _, places := range slices.Concat(tooFew, tooMany) {
			if fixed, ok := round.At(r, places); ok || fixed != (round.Fixed{}) {
				t.Errorf("P9.1: At of %s and %d: %q, %v", short(m), places, fixed, ok)
			}
		}
		for _, places := range []int{0, mostDigits} {
			checkAt(t, r, m, places)
		}
	}
}

func TestAtFarOut(t *testing.T) {
	// At has no range of numbers.
	for _, k := range []int{-20000, -5401, -5400, -5001, -5000, 5000, 5001, 5400, 5401, 20000} {
		m := times(tenTo(k), big.NewRat(17, 3))
		for _, places := range []int{0, 1, 399, 400} {
			checkAt(t, of(t, m), m, places)
		}
	}
}

func TestTo(t *testing.T) {
	for _, x := range []struct {
		r      string
		digits int
		text   string
		exp    int
	}{
		{"1", 1, "1", 0}, {"1", 3, "100", 0}, {"10", 1, "1", 1}, {"10", 2, "10", 1}, {"9", 1, "9", 0}, {"9.5", 1, "1", 1}, {"9.4", 1, "9", 0}, {"9.4", 2, "94", 0}, {"9.95", 2, "10", 1}, {"9.95", 3, "995", 0}, {"9.949", 2, "99", 0},
		{"1.5", 1, "2", 0}, {"2.5", 1, "3", 0}, {"14", 1, "1", 1}, {"15", 1, "2", 1}, {"25", 1, "3", 1}, {"95", 1, "1", 2}, {"94", 1, "9", 1}, {"99", 1, "1", 2}, {"99", 2, "99", 1},
		{"0.5", 1, "5", -1}, {"0.5", 3, "500", -1}, {"0.95", 1, "1", 0}, {"0.94", 1, "9", -1}, {"0.0995", 2, "10", -1}, {"0.0994", 2, "99", -2}, {"0.1", 2, "10", -1}, {"0.01", 2, "10", -2},
		{"12345", 1, "1", 4}, {"12345", 2, "12", 4}, {"12345", 3, "123", 4}, {"12345", 4, "1235", 4}, {"12345", 5, "12345", 4}, {"12345", 8, "12345000", 4}, {"10203", 5, "10203", 4}, {"1002", 3, "100", 3},
		{"1/3", 5, "33333", -1}, {"2/3", 5, "66667", -1}, {"1/30", 3, "333", -2}, {"200/3", 3, "667", 1}, {"1/1024", 7, "9765625", -4}, {"1/1024", 6, "976563", -4}, {"1/1024", 3, "977", -4},
		{"1e300", 2, "10", 300}, {"1e-300", 2, "10", -300}, {"9.99e300", 2, "10", 301}, {"9.99e-300", 2, "10", -299}, {"9.99e-300", 3, "999", -300},
		{"18446744073709551615", 19, "1844674407370955162", 19}, {"18446744073709551615", 20, "18446744073709551615", 19}, {"99999999999999999999", 19, "1000000000000000000", 20},
	} {
		if sci, ok := round.To(of(t, parsed(t, x.r)), x.digits); !ok || sci != (round.Sci{Digits: x.text, Exp: x.exp}) {
			t.Errorf("P9.2: To of %s and %d: %q, %d, %v; want %q, %d", x.r, x.digits, sci.Digits, sci.Exp, ok, x.text, x.exp)
		}
	}
}

func TestToEachCountOfDigits(t *testing.T) {
	for _, s := range []string{"1", "10", "2/3", "1/7", "99/100", "12345.678", "1e-399", "1e400", "95", "0.1"} {
		m := parsed(t, s)
		r := of(t, m)
		for digits := 1; digits <= mostDigits; digits++ {
			checkTo(t, r, m, digits)
		}
	}
	for digits := 1; digits <= mostDigits; digits++ {
		// The least number that goes up to the next power of ten, and one that just doesn't.
		up := new(big.Rat).Sub(tenTo(7), times(tenTo(7-digits), big.NewRat(1, 2)))
		for _, m := range []*big.Rat{up, new(big.Rat).Sub(up, tenTo(-600)), new(big.Rat).Add(up, tenTo(-600))} {
			checkTo(t, of(t, m), m, digits)
			checkNear(t, of(t, m), m, digits)
		}
	}
}

func TestToWrong(t *testing.T) {
	wrong := slices.Concat(tooFew, []int{0}, tooMany)
	for _, m := range []*big.Rat{big.NewRat(1, 1), big.NewRat(2, 3), tenTo(mostExp), tenTo(-mostExp)} {
		r := of(t, m)
		for _, digits := range wrong {
			if sci, ok := round.To(r, digits); ok || sci != (round.Sci{}) {
				t.Errorf("P9.2: To of %s and %d: %q, %d, %v", short(m), digits, sci.Digits, sci.Exp, ok)
			}
		}
		checkTo(t, r, m, 1)
		checkTo(t, r, m, mostDigits)
	}
	for _, m := range []*big.Rat{new(big.Rat), tenTo(mostExp + 1), tenTo(20000), tenTo(-mostExp - 1), tenTo(-20000)} {
		for _, digits := range append(wrong, 1, 2, mostDigits) {
			if sci, ok := round.To(of(t, m), digits); ok || sci != (round.Sci{}) {
				t.Errorf("P9.2: To of %s and %d: %q, %d, %v", short(m), digits, sci.Digits, sci.Exp, ok)
			}
		}
	}
}

func TestExpOfEachPower(t *testing.T) {
	for exp := -mostExp - 30; exp <= mostExp+30; exp++ {
		if exp%50 != 0 && max(exp, -exp) > 400 && max(exp, -exp) < mostExp-3 {
			continue
		}
		m := tenTo(exp)
		// A power of ten, what is next to it on both sides, and the greatest ones below the next power.
		for _, n := range []*big.Rat{m, times(m, new(big.Rat).SetFrac(power(2, 70, 1), power(2, 70, 0))), times(m, new(big.Rat).SetFrac(power(2, 70, -1), power(2, 70, 0))), times(m, big.NewRat(3, 1)), times(m, big.NewRat(99, 10))} {
			checkExp(t, of(t, n), n)
		}
	}
}

func TestExpAtTheEnds(t *testing.T) {
	little := new(big.Rat).SetFrac(big.NewInt(1), power(10, 5500, 0))
	for _, x := range []struct {
		m   *big.Rat
		exp int
		ok  bool
	}{
		{tenTo(-5000), -5000, true}, {new(big.Rat).Sub(tenTo(-5000), little), 0, false}, {new(big.Rat).Add(tenTo(-5000), little), -5000, true}, {tenTo(-5001), 0, false}, {times(tenTo(-5001), big.NewRat(99, 10)), 0, false},
		{tenTo(5000), 5000, true}, {new(big.Rat).Sub(tenTo(5001), little), 5000, true}, {tenTo(5001), 0, false}, {new(big.Rat).Add(tenTo(5001), little), 0, false}, {tenTo(5002), 0, false},
		{tenTo(-4999), -4999, true}, {tenTo(4999), 4999, true}, {big.NewRat(1, 1), 0, true}, {new(big.Rat).Sub(big.NewRat(1, 1), little), -1, true}, {new(big.Rat).Sub(big.NewRat(10, 1), little), 0, true}, {new(big.Rat), 0, false},
	} {
		if exp, ok := round.Exp(of(t, x.m)); exp != x.exp || ok != x.ok {
			t.Errorf("P9.2: Exp of %s: %d, %v; want %d, %v", short(x.m), exp, ok, x.exp, x.ok)
		}
	}
}

func TestExpOfPowersOfTwo(t *testing.T) {
	for _, k := range []int64{1, 2, 3, 4, 10, 31, 32, 33, 63, 64, 93, 196, 485, 2136, 13301, 16606, 16609, 16610, 16613, 16614, 16998, 16999, 17000, 17001, 17002, 17003, 20000, 32768, 100000, 1 << 20} {
		for _, more := range []int64{-1, 0, 1} {
			m := new(big.Rat).SetInt(power(2, k, more))
			checkExp(t, of(t, m), m)
			if more == 0 || k < 20000 {
				m.Inv(m)
				checkExp(t, of(t, m), m)
			}
		}
	}
}

func TestToAtTheEnds(t *testing.T) {
	below := new(big.Rat).Sub(tenTo(5001), tenTo(-10))
	nines := strings.Repeat("9", 400)
	for _, x := range []struct {
		m      *big.Rat
		digits int
		text   string
		exp    int
	}{
		{below, 1, "1", 5001}, {below, 400, "1" + strings.Repeat("0", 399), 5001}, {times(tenTo(5001), big.NewRat(94, 100)), 1, "9", 5000}, {times(tenTo(5001), big.NewRat(95, 100)), 1, "1", 5001}, {tenTo(5000), 1, "1", 5000},
		{tenTo(-5000), 1, "1", -5000}, {tenTo(-5000), 400, "1" + strings.Repeat("0", 399), -5000}, {times(tenTo(-5000), big.NewRat(20, 3)), 400, strings.Repeat("6", 399) + "7", -5000}, {times(tenTo(-5000), big.NewRat(20, 3)), 3, "667", -5000},
		{times(parsed(t, nines), tenTo(5000-399)), 400, nines, 5000}, {times(parsed(t, nines), tenTo(5000-399)), 399, "1" + strings.Repeat("0", 398), 5001}, {times(parsed(t, nines), tenTo(-5000-399)), 400, nines, -5000},
	} {
		if sci, ok := round.To(of(t, x.m), x.digits); !ok || sci != (round.Sci{Digits: x.text, Exp: x.exp}) {
			t.Errorf("P9.2: To of %s and %d: %q, %d, %v; want %q, %d", short(x.m), x.digits, sci.Digits, sci.Exp, ok, x.text, x.exp)
		}
	}
}

func TestStep(t *testing.T) {
	for _, x := range []struct{ r, step, want string }{
		{"0", "1", "0"}, {"0", "7/3", "0"}, {"7/2", "3", "3"}, {"9/2", "3", "6"}, {"4.4999", "3", "3"}, {"1.5", "3", "3"}, {"1.4999", "3", "0"}, {"1", "3", "0"}, {"2", "3", "3"}, {"3", "3", "3"}, {"6", "3", "6"},
		{"1/2", "1", "1"}, {"3/2", "1", "2"}, {"5/2", "1", "3"}, {"0.49", "1", "0"}, {"0.3", "1/4", "1/4"}, {"3/8", "1/4", "1/2"}, {"1/8", "1/4", "1/4"}, {"0.12", "1/4", "0"}, {"1/3", "1/7", "2/7"}, {"5/14", "1/7", "3/7"}, {"1", "2/3", "4/3"}, {"0.99", "2/3", "2/3"},
		{"100", "7/3", "301/3"}, {"1e20", "3", "99999999999999999999"}, {"1e-20", "1", "0"}, {"1e-20", "1e-20", "1e-20"}, {"1", "1e20", "0"}, {"5e19", "1e20", "1e20"}, {"0.25", "0.5", "0.5"}, {"1/86400", "1/86400", "1/86400"}, {"0.5", "1/86400", "0.5"},
	} {
		near, ok := round.Step(of(t, parsed(t, x.r)), of(t, parsed(t, x.step)))
		if !ok {
			t.Errorf("P9.1: Step of %s and %s: false", x.r, x.step)
		}
		checkSame(t, "P9.1: Step of "+x.r+" and "+x.step, near, parsed(t, x.want))
	}
}

func TestStepOfNought(t *testing.T) {
	noughts := []ratio.Ratio{{}, of(t, new(big.Rat)), of(t, big.NewRat(7, 3)).Scale(5001), ratio.Away(of(t, big.NewRat(1, 3)), of(t, big.NewRat(1, 3)))}
	for _, step := range noughts {
		for _, m := range []*big.Rat{new(big.Rat), big.NewRat(1, 1), big.NewRat(2, 3), tenTo(6000), tenTo(-6000)} {
			near, ok := round.Step(of(t, m), step)
			if ok {
				t.Errorf("P9.1: Step of %s and 0: true", short(m))
			}
			checkSame(t, "P9.1: beside false", near, new(big.Rat))
		}
		if exp, ok := round.Exp(step); exp != 0 || ok {
			t.Errorf("P9.2: Exp of 0: %d, %v", exp, ok)
		}
		if fixed, ok := round.At(step, 3); !ok || fixed != (round.Fixed{Part: "000"}) {
			t.Errorf("P9.1: At of 0 and 3: %q, %v", fixed, ok)
		}
	}
}

func TestStepFarOut(t *testing.T) {
	for _, k := range []int{-7000, -5001, 5001, 7000} {
		for _, l := range []int{-7000, -30, 0, 30, 7000} {
			m, n := times(tenTo(k), big.NewRat(17, 3)), times(tenTo(l), big.NewRat(3, 11))
			checkStep(t, of(t, m), of(t, n), m, n)
		}
	}
}

func TestAllSmall(t *testing.T) {
	const most = 30
	for num := range int64(most) {
		for den := int64(1); den < most; den++ {
			m := big.NewRat(num, den)
			r := of(t, m)
			for places := range 5 {
				checkAll(t, m, places, places+1)
			}
			for stepNum := int64(1); stepNum < 8; stepNum++ {
				for stepDen := int64(1); stepDen < 8; stepDen++ {
					n := big.NewRat(stepNum, stepDen)
					checkStep(t, r, of(t, n), m, n)
				}
			}
		}
	}
}

func TestPairsOfTerms(t *testing.T) {
	var all []*big.Rat
	for _, num := range terms {
		for _, den := range terms[1:] {
			all = append(all, new(big.Rat).SetFrac(num, den))
		}
	}
	for i, m := range all {
		for _, count := range []int{1, 2, 11, 19, 20, 30, 33} {
			checkAll(t, m, count, count)
		}
		checkAll(t, m, 0, mostDigits)
		for j := i % 17; j < len(all); j += 17 {
			if n := all[j]; n.Sign() != 0 {
				checkStep(t, of(t, m), of(t, n), m, n)
			}
		}
	}
}

func TestValues(t *testing.T) {
	source := rand.New(rand.NewSource(9))
	check := func(b uint64) {
		r, ok := ratio.Value(bits.Of(b))
		if !ok {
			return
		}
		m := new(big.Rat).SetFloat64(math.Abs(math.Float64frombits(b)))
		places, digits := source.Intn(20), 1+source.Intn(20)
		checkAt(t, r, m, places)
		checkExp(t, r, m)
		if m.Sign() != 0 {
			checkTo(t, r, m, digits)
		}
	}
	for _, b := range []uint64{0, 1, 1<<52 - 1, 1 << 52, greatest, 0x3FF0000000000000, 0x3FEFFFFFFFFFFFFF, 0x4024000000000000, 0x4023FFFFFFFFFFFF, 0x44B52D02C7E14AF6} {
		check(b)
	}
	for exponent := range uint64(2047) {
		check(exponent<<52 | source.Uint64()>>12)
	}
	for range 5000 {
		check(source.Uint64())
		check(math.Float64bits(float64(source.Int63n(1<<40)) / float64(int64(1)<<source.Intn(40))))
		check(math.Float64bits(float64(source.Int63n(1e9)) / 1000))
	}
}

// chance: a number of up to so many limbs.
func chance(source *rand.Rand, limbs int) *big.Int {
	n := make([]uint32, 1+source.Intn(limbs))
	for i := range n {
		n[i] = source.Uint32() >> source.Intn(32)
	}
	return bigOf(n)
}

func TestChance(t *testing.T) {
	source := rand.New(rand.NewSource(99))
	for range 3000 {
		num, den := chance(source, 12), chance(source, 12)
		m := new(big.Rat).SetFrac(num, den.Add(den, big.NewInt(1)))
		checkAll(t, m, source.Intn(60), 1+source.Intn(60))
		n := new(big.Rat).SetFrac(chance(source, 6), den)
		if n.Sign() != 0 {
			checkStep(t, of(t, m), of(t, n), m, n)
		}
	}
}

func TestHalves(t *testing.T) {
	// Just between two: the greater one is next, whether it is even or odd.
	source := rand.New(rand.NewSource(999))
	for range 3000 {
		places := source.Intn(40)
		count := chance(source, 4)
		m := times(new(big.Rat).SetFrac(count.Add(count.Lsh(count, 1), big.NewInt(1)), big.NewInt(2)), tenTo(-places))
		checkAt(t, of(t, m), m, places)
		if exp := expOf(m); exp+places+1 > 0 {
			checkTo(t, of(t, m), m, exp+places+1)
		}
		step := tenTo(-places)
		checkStep(t, of(t, m), of(t, step), m, step)
	}
}

func TestOrderIsKept(t *testing.T) {
	// P5: of two values the lesser one is never shown as the greater one.
	source := rand.New(rand.NewSource(5))
	for range 3000 {
		den := chance(source, 3)
		den.Add(den, big.NewInt(1))
		a, b := new(big.Rat).SetFrac(chance(source, 3), den), new(big.Rat).SetFrac(chance(source, 3), den)
		if a.Cmp(b) > 0 {
			a, b = b, a
		}
		places := source.Intn(6)
		low, _ := round.At(of(t, a), places)
		high, _ := round.At(of(t, b), places)
		if parsed(t, "0"+low.Whole+"."+low.Part+"0").Cmp(parsed(t, "0"+high.Whole+"."+high.Part+"0")) > 0 {
			t.Errorf("P5: At of %s: %q; of %s: %q", short(a), low, short(b), high)
		}
	}
}

func TestLargeTerms(t *testing.T) {
	ones := func(limbs int64) *big.Int { return power(2, 32*limbs, -1) }
	for _, m := range []*big.Rat{
		new(big.Rat).SetInt(ones(api.MaxLimbs)), new(big.Rat).SetInt(ones(500)), new(big.Rat).SetFrac(big.NewInt(1), ones(500)), new(big.Rat).SetFrac(big.NewInt(1), ones(api.MaxLimbs)), new(big.Rat).SetFrac(ones(api.MaxLimbs), ones(700)), new(big.Rat).SetFrac(ones(600), ones(api.MaxLimbs)),
	} {
		checkAll(t, m, mostDigits, mostDigits)
		checkAll(t, m, 0, 1)
		checkStep(t, of(t, m), of(t, big.NewRat(7, 3)), m, big.NewRat(7, 3))
	}
}

func FuzzRound(f *testing.F) {
	f.Add([]byte{1}, []byte{2}, []byte{3}, 0, 1)
	f.Add([]byte{0xE7, 0xFF}, []byte{0x64}, []byte{1, 0, 0, 0, 0}, 2, 4)
	f.Add([]byte{}, []byte{10}, []byte{10}, 400, 400)
	f.Add(power(10, 30, -1).Bytes(), power(10, 15, 0).Bytes(), power(2, 64, 0).Bytes(), -1, 401)
	f.Fuzz(func(t *testing.T, num, den, step []byte, places, digits int) {
		if len(num) > 500 || len(den) > 500 || len(step) > 500 {
			return
		}
		lower := new(big.Int).SetBytes(den)
		if lower.Sign() == 0 {
			return
		}
		m := new(big.Rat).SetFrac(new(big.Int).SetBytes(num), lower)
		r := of(t, m)
		if fixed, ok := round.At(r, places); ok != (places >= 0 && places <= mostDigits) || !ok && fixed != (round.Fixed{}) {
			t.Errorf("P9.1: At of %s and %d: %q, %v", short(m), places, fixed, ok)
		}
		if sci, ok := round.To(r, digits); ok != (digits >= 1 && digits <= mostDigits && m.Sign() != 0) || !ok && sci != (round.Sci{}) {
			t.Errorf("P9.2: To of %s and %d: %q, %d, %v", short(m), digits, sci.Digits, sci.Exp, ok)
		}
		checkAll(t, m, min(max(places, 0), mostDigits), min(max(digits, 1), mostDigits))
		if n := new(big.Rat).SetInt(new(big.Int).SetBytes(step)); n.Sign() != 0 {
			checkStep(t, r, of(t, n), m, n)
			n.Inv(n)
			checkStep(t, r, of(t, n), m, n)
		}
	})
}
