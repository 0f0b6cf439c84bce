package digits_test

import (
	"encoding/binary"
	"math"
	"math/big"
	"math/rand"
	"slices"
	"strings"
	"testing"

	"numerary/api"
	"numerary/digits"
	"numerary/nat"
	"numerary/tens"
)

const (
	top    = 0xFFFFFFFF
	maxPad = 65536
)

// bigOf is the number of limbs, put together by the library.
func bigOf(limbs []uint32) *big.Int {
	var b []byte
	for _, limb := range slices.Backward(limbs) {
		b = binary.BigEndian.AppendUint32(b, limb)
	}
	return new(big.Int).SetBytes(b)
}

// natOf: the Nat of n.
func natOf(n *big.Int) nat.Nat {
	bytes := n.FillBytes(make([]byte, (n.BitLen()+31)/32*4))
	var limbs []uint32
	for ; len(bytes) > 0; bytes = bytes[:len(bytes)-4] {
		limbs = append(limbs, binary.BigEndian.Uint32(bytes[len(bytes)-4:]))
	}
	return nat.Made(limbs)
}

// power: b to k.
func power(b, k int) *big.Int {
	return new(big.Int).Exp(big.NewInt(int64(b)), big.NewInt(int64(k)), nil)
}

// short: a text's ends, for what is told of it.
func short(s string) string {
	if len(s) <= 120 {
		return s
	}
	return s[:50] + " .. " + s[len(s)-50:]
}

// checkParse: s is to be taken, as n.
func checkParse(t *testing.T, what, s string, n *big.Int) {
	t.Helper()
	a, ok := digits.Parse(s)
	limbs := a.Limbs()
	if !ok || bigOf(limbs).Cmp(n) != 0 {
		t.Errorf("%s: Parse of %q: %s, %v", what, short(s), short(bigOf(limbs).String()), ok)
	}
	if len(limbs) > 0 && limbs[len(limbs)-1] == 0 {
		t.Errorf("%s: Parse of %q: the last limb is 0", what, short(s))
	}
}

// checkRefused: s isn't to be taken.
func checkRefused(t *testing.T, s string) {
	t.Helper()
	if a, ok := digits.Parse(s); ok || len(a.Limbs()) != 0 {
		t.Errorf("P6.1: Parse of %q: %s, %v; want 0, false", short(s), short(bigOf(a.Limbs()).String()), ok)
	}
}

// checkNumber: what P6.1 and P6.3 say of a number.
func checkNumber(t *testing.T, n *big.Int) {
	t.Helper()
	a, want := natOf(n), n.String()
	if got := digits.Text(a); got != want {
		t.Errorf("P6.1: Text of %s: %s", short(want), short(got))
	}
	if got := digits.Count(a); got != len(want) {
		t.Errorf("P6.1: Count of %s: %d; want %d", short(want), got, len(want))
	}
	checkParse(t, "P6.1", want, n)
	checkParse(t, "P6.3", digits.Text(a), n)
	if bigOf(a.Limbs()).Cmp(n) != 0 {
		t.Errorf("P2.3: %s was changed", short(want))
	}
}

// checkAround: a number, and those some below and above it.
func checkAround(t *testing.T, n *big.Int) {
	t.Helper()
	for near := int64(-2); near <= 2; near++ {
		m := new(big.Int).Add(n, big.NewInt(near))
		if m.Sign() >= 0 {
			checkNumber(t, m)
		}
	}
}

func TestNought(t *testing.T) {
	for _, a := range []nat.Nat{{}, nat.Of(0), nat.Made(make([]uint32, 5))} {
		if s := digits.Text(a); s != "0" {
			t.Errorf("P6.1: Text of 0: %q", s)
		}
		if n := digits.Count(a); n != 1 {
			t.Errorf("P6.1: Count of 0: %d", n)
		}
	}
	for size := 1; size <= 100; size++ {
		checkParse(t, "P6.1: noughts alone", strings.Repeat("0", size), new(big.Int))
	}
}

func TestFirstNumbers(t *testing.T) {
	for n := range 2000 {
		checkNumber(t, big.NewInt(int64(n)))
	}
}

func TestAroundPowers(t *testing.T) {
	for k := range 400 {
		checkAround(t, power(10, k))
		checkAround(t, new(big.Int).Mul(big.NewInt(9), power(10, k)))
	}
	for k := range 700 {
		checkAround(t, power(2, k))
	}
}

func TestEachDigitAtEachPlace(t *testing.T) {
	for _, size := range []int{19, 20, 21, 38, 39, 40, 41, 57, 77, 78} {
		for place := range size {
			for digit := byte('0'); digit <= '9'; digit++ {
				for _, fill := range []string{"0", "9"} {
					s := []byte(strings.Repeat(fill, size))
					s[place] = digit
					n, _ := new(big.Int).SetString(string(s), 10)
					checkParse(t, "P6.1", string(s), n)
					checkNumber(t, n)
				}
			}
		}
	}
}

func TestNoughtsInside(t *testing.T) {
	// A one ahead and a few digits at the end: all between must stay noughts, wherever the number is parted.
	for _, size := range []int{20, 21, 37, 38, 39, 40, 41, 76, 80, 160, 333, 1000} {
		for _, end := range []int64{0, 1, 7, 10, 999, 1 << 62} {
			checkNumber(t, new(big.Int).Add(power(10, size), big.NewInt(end)))
			checkNumber(t, new(big.Int).Mul(power(10, size), big.NewInt(end)))
		}
	}
}

func TestMoreDecimalsThanPadFillsUpTo(t *testing.T) {
	for _, size := range []int{maxPad, 2*maxPad + 3, 150000} {
		n := power(10, size)
		checkNumber(t, n)
		checkNumber(t, n.Add(n, big.NewInt(7)))
	}
}

func TestLongNumbers(t *testing.T) {
	source := rand.New(rand.NewSource(60))
	for _, size := range []int{api.MaxLimbs - 1, api.MaxLimbs, api.MaxLimbs + 1, 3000} {
		checkAround(t, power(2, 32*size))
		checkNumber(t, new(big.Int).Rand(source, power(2, 32*size)))
	}
}

func TestMany(t *testing.T) {
	source := rand.New(rand.NewSource(6))
	turns := []uint32{0, 0, 1, 999999999, 1000000000, 0x7FFFFFFF, 0x80000000, top - 1, top}
	for range 20000 {
		limbs := make([]uint32, source.Intn(20))
		for i := range limbs {
			limbs[i] = source.Uint32()
			if source.Intn(2) == 0 {
				limbs[i] = turns[source.Intn(len(turns))]
			}
		}
		checkNumber(t, bigOf(limbs))
	}
}

func TestManyTexts(t *testing.T) {
	source := rand.New(rand.NewSource(61))
	for range 20000 {
		s := make([]byte, 1+source.Intn(120))
		for i := range s {
			s[i] = "000123456789999"[source.Intn(15)]
		}
		n, _ := new(big.Int).SetString(string(s), 10)
		checkParse(t, "P6.1", string(s), n)
		bare := strings.TrimLeft(string(s[:len(s)-1]), "0") + string(s[len(s)-1])
		if a, _ := digits.Parse(string(s)); digits.Text(a) != bare {
			t.Errorf("P6.1: Text of Parse of %q: %q", s, digits.Text(a))
		}
	}
}

func TestNoughtsAhead(t *testing.T) {
	for _, s := range []string{"0", "7", "18446744073709551615", "18446744073709551616", "9999999999999999999", "10000000000000000000", strings.Repeat("9", 60)} {
		n, _ := new(big.Int).SetString(s, 10)
		for ahead := range 60 {
			checkParse(t, "P6.1: noughts ahead", strings.Repeat("0", ahead)+s, n)
		}
		checkParse(t, "P6.1: many noughts ahead", strings.Repeat("0", 3000000)+s, n)
	}
}

func TestNoDigits(t *testing.T) {
	for _, s := range []string{
		"", " ", "+", "-", "+1", "-1", "-0", "1 ", " 1", "1 2", "1\n", "\t1", "1\x00", "\x001", "1.", ".5", "1.0", "1e3", "1_000", "1,000", "0x10", "0b1", "a", "1a", "٣", "1٣", "１", "²", "½", "1\xff", "\xff", "\xb1", "NaN", "Inf", "1/", "1:",
	} {
		checkRefused(t, s)
	}
}

func TestEachByteAtEachPlace(t *testing.T) {
	for _, size := range []int{1, 2, 18, 19, 20, 21, 40, 100} {
		for place := range size {
			for b := range 256 {
				s := []byte(strings.Repeat("3", size))
				s[place] = byte(b)
				if b >= '0' && b <= '9' {
					n, _ := new(big.Int).SetString(string(s), 10)
					checkParse(t, "P6.1", string(s), n)
				} else {
					checkRefused(t, string(s))
				}
			}
		}
	}
	nines := strings.Repeat("9", 5000)
	for _, s := range []string{"x" + nines, nines + "x", nines + "x" + nines, strings.Repeat("0", 5000) + "x", "x" + strings.Repeat("0", 5000)} {
		checkRefused(t, s)
	}
}

func TestPad(t *testing.T) {
	for _, x := range []struct {
		s    string
		n    int
		want string
	}{
		{"7", 3, "007"}, {"7", 2, "07"}, {"7", 1, "7"}, {"7", 0, "7"}, {"7", -1, "7"}, {"7", math.MinInt, "7"}, {"7", math.MinInt + 1, "7"}, {"7", math.MaxInt, "7"}, {"7", math.MaxInt - 1, "7"},
		{"", 0, ""}, {"", 1, "0"}, {"", 4, "0000"}, {"", -5, ""}, {"", math.MinInt, ""}, {"", math.MaxInt, ""},
		{"123", 2, "123"}, {"123", 3, "123"}, {"123", 4, "0123"}, {"0", 2, "00"}, {"007", 5, "00007"}, {"100", 4, "0100"},
		{"-5", 4, "00-5"}, {"a b", 5, "00a b"}, {"é", 2, "é"}, {"é", 3, "0é"}, {"€", 3, "€"}, {"€", 5, "00€"}, {"\xff", 2, "0\xff"}, {"\x00", 2, "0\x00"},
	} {
		if got := digits.Pad(x.s, x.n); got != x.want {
			t.Errorf("P6.2: Pad of %q and %d: %q; want %q", x.s, x.n, short(got), x.want)
		}
	}
}

func TestPadOfEachSize(t *testing.T) {
	for size := range 40 {
		s := strings.Repeat("4", size)
		for n := range 60 {
			want := s
			for len(want) < n {
				want = "0" + want
			}
			if got := digits.Pad(s, n); got != want {
				t.Errorf("P6.2: Pad of %q and %d: %q", s, n, got)
			}
		}
	}
}

func TestPadAtItsEnd(t *testing.T) {
	for _, size := range []int{0, 1, 5, maxPad - 1, maxPad, maxPad + 1, maxPad + 5, 3 * maxPad} {
		s := strings.Repeat("8", size)
		for _, n := range []int{maxPad - 1, maxPad} {
			if got := digits.Pad(s, n); got != strings.Repeat("0", max(0, n-size))+s {
				t.Errorf("P6.2: Pad of %d bytes and %d: %d bytes", size, n, len(got))
			}
		}
		for _, n := range []int{maxPad + 1, maxPad + 2, 2 * maxPad, 4 * maxPad, math.MaxInt32, math.MaxInt} {
			if got := digits.Pad(s, n); got != s {
				t.Errorf("P6.2: Pad of %d bytes and %d: %d bytes; want them as they are", size, n, len(got))
			}
		}
	}
}

func TestTrim(t *testing.T) {
	for _, x := range []struct{ s, want string }{
		{"", ""}, {"0", ""}, {"00", ""}, {"1", "1"}, {"10", "1"}, {"1200", "12"}, {"1010", "101"}, {"0010", "001"}, {"01", "01"}, {"1001", "1001"},
		{"a0", "a"}, {"0a", "0a"}, {"0a00", "0a"}, {"10 ", "10 "}, {"1.50", "1.5"}, {"1.00", "1."}, {"-0", "-"}, {"1O", "1O"}, {"1/", "1/"},
		{"é0", "é"}, {"0é", "0é"}, {"\xff00", "\xff"}, {"1\x00", "1\x00"}, {"1\x000", "1\x00"}, {"1\xb0", "1\xb0"}, {"1٠", "1٠"}, {"1０", "1０"},
		{strings.Repeat("0", 100000), ""}, {"1" + strings.Repeat("0", 100000), "1"}, {strings.Repeat("0", 100000) + "1", strings.Repeat("0", 100000) + "1"},
	} {
		if got := digits.Trim(x.s); got != x.want {
			t.Errorf("P6.2: Trim of %q: %q; want %q", short(x.s), short(got), short(x.want))
		}
	}
}

func TestTrimAtEachByte(t *testing.T) {
	for b := range 256 {
		s := "5" + string([]byte{byte(b)})
		want := s
		if b == '0' {
			want = "5"
		}
		if got := digits.Trim(s + "000"); got != want {
			t.Errorf("P6.2: Trim of %q: %q", s+"000", got)
		}
		if got := digits.Trim(s); got != want {
			t.Errorf("P6.2: Trim of %q: %q", s, got)
		}
	}
}

func TestExamples(t *testing.T) {
	if got := digits.Pad("7", 3); got != "007" {
		t.Errorf("P6.2: Pad of 7 and 3: %q", got)
	}
	if got := digits.Trim("1200"); got != "12" {
		t.Errorf("P6.2: Trim of 1200: %q", got)
	}
	if got := digits.Text(tens.Ten(25)); got != "1"+strings.Repeat("0", 25) {
		t.Errorf("P6.1: Text of 10^25: %q", got)
	}
}

func FuzzDecimals(f *testing.F) {
	for _, s := range []string{"", "0", "007", "1x", "-1", "18446744073709551616", strings.Repeat("90", 50), "\xff", "٣"} {
		f.Add(s, len(s)+2)
	}
	f.Fuzz(func(t *testing.T, s string, n int) {
		if s != "" && strings.Trim(s, "0123456789") == "" {
			want, _ := new(big.Int).SetString(s, 10)
			checkParse(t, "P6.1", s, want)
			checkNumber(t, want)
		} else {
			checkRefused(t, s)
		}
		checkNumber(t, new(big.Int).SetBytes([]byte(s)))
		want := s
		if n <= maxPad && n > len(s) {
			want = strings.Repeat("0", n-len(s)) + s
		}
		if got := digits.Pad(s, n); got != want {
			t.Errorf("P6.2: Pad of %q and %d: %q", s, n, short(got))
		}
		bare := digits.Trim(s)
		if strings.HasSuffix(bare, "0") || bare+strings.Repeat("0", len(s)-len(bare)) != s {
			t.Errorf("P6.2: Trim of %q: %q", s, bare)
		}
	})
}
