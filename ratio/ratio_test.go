package ratio_test

import (
	"encoding/binary"
	"math"
	"math/big"
	"math/rand"
	"slices"
	"testing"

	"numerary/api"
	"numerary/bits"
	"numerary/nat"
	"numerary/ratio"
	"numerary/tens"
)

const (
	sign     = 1 << 63
	greatest = 0x7FEFFFFFFFFFFFFF
)

// terms: numbers at which a term's size turns, and some that share factors or none.
var terms = []*big.Int{
	big.NewInt(0), big.NewInt(1), big.NewInt(2), big.NewInt(3), big.NewInt(4), big.NewInt(6), big.NewInt(10), big.NewInt(15), big.NewInt(97), big.NewInt(360),
	big.NewInt(math.MaxUint32), big.NewInt(1 << 32), big.NewInt(1<<32 + 1), big.NewInt(math.MaxInt64), power(2, 64, -1), power(2, 64, 0), power(2, 64, 1),
	power(2, 96, -1), power(2, 100, 0), power(3, 70, 0), power(5, 60, 0), power(10, 19, 0), power(10, 30, 0), power(10, 30, -1),
}

// power: n to k, and more.
func power(n, k, more int64) *big.Int {
	p := new(big.Int).Exp(big.NewInt(n), big.NewInt(k), nil)
	return p.Add(p, big.NewInt(more))
}

// tenTo: 10 to k, which may be below 0.
func tenTo(k int) *big.Rat {
	r := new(big.Rat).SetInt(power(10, int64(max(k, -k)), 0))
	if k < 0 {
		r.Inv(r)
	}
	return r
}

// bigOf is the number of limbs, put together by the library.
func bigOf(limbs []uint32) *big.Int {
	var b []byte
	for _, limb := range slices.Backward(limbs) {
		b = binary.BigEndian.AppendUint32(b, limb)
	}
	return new(big.Int).SetBytes(b)
}

// natOf: the Nat of n.
func natOf(n *big.Int) nat.Nat {
	bytes := n.FillBytes(make([]byte, (n.BitLen()+31)/32*4))
	var limbs []uint32
	for ; len(bytes) > 0; bytes = bytes[:len(bytes)-4] {
		limbs = append(limbs, binary.BigEndian.Uint32(bytes[len(bytes)-4:]))
	}
	return nat.Made(limbs)
}

// short: a number, for what is told of it.
func short(r *big.Rat) string {
	s := r.String()
	if len(s) <= 120 {
		return s
	}
	return s[:50] + " .. " + s[len(s)-50:]
}

// of: the quotient of two numbers, the lower one not 0.
func of(t *testing.T, num, den *big.Int) ratio.Ratio {
	t.Helper()
	r, ok := ratio.Of(natOf(num), natOf(den))
	if !ok {
		t.Fatalf("P8.1: Of %X and %X: false", num, den)
	}
	return r
}

// small: the quotient of two small numbers.
func small(t *testing.T, num, den int64) ratio.Ratio {
	t.Helper()
	return of(t, big.NewInt(num), big.NewInt(den))
}

// check: r is to be want, in its lowest terms, which the library's quotients have, too (of 0 these are 0 and 1).
func check(t *testing.T, what string, r ratio.Ratio, want *big.Rat) {
	t.Helper()
	num, den := r.Terms()
	if nat.Cmp(num, natOf(want.Num())) != 0 || nat.Cmp(den, natOf(want.Denom())) != 0 {
		t.Errorf("%s: %X / %X; want %s", what, bigOf(num.Limbs()), bigOf(den.Limbs()), short(want))
	}
}

// checkWhole: a is to be n.
func checkWhole(t *testing.T, what string, a nat.Nat, n *big.Int) {
	t.Helper()
	if nat.Cmp(a, natOf(n)) != 0 {
		t.Errorf("%s: %X; want %X", what, bigOf(a.Limbs()), n)
	}
}

// checkOne: what P8.1 and P8.2 say of r, which is to be m, alone.
func checkOne(t *testing.T, r ratio.Ratio, m *big.Rat) {
	t.Helper()
	check(t, "P8.1: Terms", r, m)
	q := new(big.Int).Quo(m.Num(), m.Denom())
	whole, rest := r.Parts()
	checkWhole(t, "P8.2: Parts, the whole number", whole, q)
	check(t, "P8.2: Parts, the rest", rest, new(big.Rat).Sub(m, new(big.Rat).SetInt(q)))
	for _, k := range []int{-40, -3, -1, 0, 1, 2, 40} {
		check(t, "P8.2: Scale", r.Scale(k), new(big.Rat).Mul(m, tenTo(k)))
	}
}

// checkPair: what P8.2 says of a and b, which are to be m and n.
func checkPair(t *testing.T, a, b ratio.Ratio, m, n *big.Rat) {
	t.Helper()
	if order := ratio.Cmp(a, b); order != m.Cmp(n) {
		t.Errorf("P8.2: Cmp of %s and %s: %d", short(m), short(n), order)
	}
	away := new(big.Rat).Sub(m, n)
	check(t, "P8.2: Add", ratio.Add(a, b), new(big.Rat).Add(m, n))
	check(t, "P8.2: Away", ratio.Away(a, b), away.Abs(away))
	check(t, "P8.2: Mul", ratio.Mul(a, b), new(big.Rat).Mul(m, n))
	check(t, "P8.2: the first one, after all", a, m)
	check(t, "P8.2: the second one, after all", b, n)
}

// checkSame: a and b are to be the same, in all that can be asked of them and of another one.
func checkSame(t *testing.T, what string, a, b, other ratio.Ratio) {
	t.Helper()
	aWhole, aRest := a.Parts()
	bWhole, bRest := b.Parts()
	if nat.Cmp(aWhole, bWhole) != 0 || ratio.Cmp(a, b) != 0 || ratio.Cmp(a, other) != ratio.Cmp(b, other) || ratio.Cmp(other, a) != ratio.Cmp(other, b) {
		t.Errorf("%s: not the same", what)
	}
	for _, pair := range [][2]ratio.Ratio{
		{a, b}, {aRest, bRest}, {a.Scale(7), b.Scale(7)}, {a.Scale(-7), b.Scale(-7)},
		{ratio.Add(a, other), ratio.Add(b, other)}, {ratio.Add(other, a), ratio.Add(other, b)},
		{ratio.Away(a, other), ratio.Away(b, other)}, {ratio.Away(other, a), ratio.Away(other, b)},
		{ratio.Mul(a, other), ratio.Mul(b, other)}, {ratio.Mul(other, a), ratio.Mul(other, b)},
	} {
		num, den := pair[1].Terms()
		check(t, what, pair[0], new(big.Rat).SetFrac(bigOf(num.Limbs()), bigOf(den.Limbs())))
	}
}

// checkLaws: what P8.3 says of any three.
func checkLaws(t *testing.T, a, b, c ratio.Ratio) {
	t.Helper()
	checkSame(t, "P8.3: sums hang on no order", ratio.Add(a, b), ratio.Add(b, a), c)
	checkSame(t, "P8.3: products hang on no order", ratio.Mul(a, b), ratio.Mul(b, a), c)
	checkSame(t, "P8.3: Away hangs on no order", ratio.Away(a, b), ratio.Away(b, a), c)
	checkSame(t, "P8.3: sums of sums", ratio.Add(ratio.Add(a, b), c), ratio.Add(a, ratio.Add(b, c)), b)
	checkSame(t, "P8.3: products of products", ratio.Mul(ratio.Mul(a, b), c), ratio.Mul(a, ratio.Mul(b, c)), b)
	checkSame(t, "P8.3: products go through sums", ratio.Mul(a, ratio.Add(b, c)), ratio.Add(ratio.Mul(a, b), ratio.Mul(a, c)), b)
	checkSame(t, "P8.3: Away turns Add back", ratio.Away(ratio.Add(a, b), b), a, c)
	whole, rest := a.Parts()
	one, _ := ratio.Of(whole, nat.Of(1))
	checkSame(t, "P8.3: the parts together", ratio.Add(one, rest), a, c)
	if ratio.Cmp(a, b) != -ratio.Cmp(b, a) {
		t.Errorf("P8.3: Cmp both ways: %d, %d", ratio.Cmp(a, b), ratio.Cmp(b, a))
	}
}

func TestOf(t *testing.T) {
	for _, x := range []struct{ num, den, n, d uint64 }{
		{6, 4, 3, 2}, {0, 9, 0, 1}, {0, 1, 0, 1}, {1, 1, 1, 1}, {7, 7, 1, 1}, {7, 1, 7, 1}, {1, 7, 1, 7}, {12, 18, 2, 3}, {18, 12, 3, 2}, {35, 36, 35, 36}, {1 << 40, 1 << 38, 4, 1}, {1 << 38, 1 << 40, 1, 4},
		{0, math.MaxUint64, 0, 1}, {math.MaxUint64, 1, math.MaxUint64, 1}, {1, math.MaxUint64, 1, math.MaxUint64}, {math.MaxUint64, math.MaxUint64, 1, 1}, {math.MaxUint64, math.MaxUint32, 1<<32 + 1, 1}, {math.MaxUint64, 1<<32 + 1, math.MaxUint32, 1}, {math.MaxUint64 - 1, math.MaxUint64, math.MaxUint64 - 1, math.MaxUint64},
		{1 << 63, 6, 1 << 62, 3}, {10, 1 << 63, 5, 1 << 62}, {3 * 1000003, 5 * 1000003, 3, 5},
	} {
		r, ok := ratio.Of(nat.Of(x.num), nat.Of(x.den))
		num, den := r.Terms()
		n, _ := num.Small()
		d, _ := den.Small()
		if !ok || n != x.n || d != x.d {
			t.Errorf("P8.1: Of %d and %d: %d / %d, %v; want %d / %d", x.num, x.den, n, d, ok, x.n, x.d)
		}
	}
}

func TestOfNoughtBelow(t *testing.T) {
	for _, den := range []nat.Nat{{}, nat.Of(0), nat.Made(make([]uint32, 5))} {
		for _, num := range []nat.Nat{{}, nat.Of(0), nat.Of(1), nat.Of(math.MaxUint64), tens.Ten(400)} {
			r, ok := ratio.Of(num, den)
			if ok {
				t.Errorf("P8.1: Of %X and 0: true", num.Limbs())
			}
			check(t, "P8.1: beside false", r, new(big.Rat))
		}
	}
}

func TestZeroRatio(t *testing.T) {
	var zero ratio.Ratio
	checkOne(t, zero, new(big.Rat))
	for _, den := range terms[1:] {
		nought := of(t, new(big.Int), den)
		checkOne(t, nought, new(big.Rat))
		checkSame(t, "P8.3: 0 and the zero Ratio", nought, zero, small(t, 7, 3))
		checkSame(t, "P8.3: 0 and the zero Ratio", nought, zero, zero)
	}
	for _, num := range terms {
		for _, den := range terms[1:] {
			r, m := of(t, num, den), new(big.Rat).SetFrac(num, den)
			checkPair(t, zero, r, new(big.Rat), m)
			checkPair(t, r, zero, m, new(big.Rat))
			checkSame(t, "P8.2: with 0 added", ratio.Add(r, zero), r, small(t, 1, 3))
			checkSame(t, "P8.2: away from itself", ratio.Away(r, r), zero, r)
			checkSame(t, "P8.2: times 0", ratio.Mul(zero, r), zero, r)
		}
	}
}

func TestEachOfTerms(t *testing.T) {
	for _, num := range terms {
		for _, den := range terms[1:] {
			checkOne(t, of(t, num, den), new(big.Rat).SetFrac(num, den))
		}
	}
}

func TestPairsOfTerms(t *testing.T) {
	var all []*big.Rat
	for _, num := range terms {
		for _, den := range terms[1:] {
			all = append(all, new(big.Rat).SetFrac(num, den))
		}
	}
	for i, m := range all {
		a := of(t, m.Num(), m.Denom())
		checkPair(t, a, a, m, m)
		for j := i % 7; j < len(all); j += 7 {
			n := all[j]
			checkPair(t, a, of(t, n.Num(), n.Denom()), m, n)
		}
	}
}

func TestAllSmall(t *testing.T) {
	const most = 9
	type pair struct{ num, den int64 }
	var pairs []pair
	for num := range int64(most) {
		for den := int64(1); den < most; den++ {
			pairs = append(pairs, pair{num, den})
		}
	}
	for _, x := range pairs {
		a, m := small(t, x.num, x.den), big.NewRat(x.num, x.den)
		checkOne(t, a, m)
		for _, y := range pairs {
			checkPair(t, a, small(t, y.num, y.den), m, big.NewRat(y.num, y.den))
		}
	}
}

func TestNeighbours(t *testing.T) {
	// Of such two the products that tell their order are but 1 apart.
	for _, k := range []int64{1, 16, 31, 32, 33, 63, 64, 65, 500, 5000} {
		low, middle, high := power(2, k, -1), power(2, k, 0), power(2, k, 1)
		m, n := new(big.Rat).SetFrac(low, middle), new(big.Rat).SetFrac(middle, high)
		checkPair(t, of(t, low, middle), of(t, middle, high), m, n)
		checkPair(t, of(t, middle, high), of(t, low, middle), n, m)
		checkPair(t, of(t, middle, low), of(t, high, middle), new(big.Rat).Inv(m), new(big.Rat).Inv(n))
	}
}

func TestParts(t *testing.T) {
	for _, x := range []struct{ num, den, whole, restNum, restDen int64 }{
		{0, 1, 0, 0, 1}, {0, 5, 0, 0, 1}, {1, 2, 0, 1, 2}, {2, 4, 0, 1, 2}, {1, 1, 1, 0, 1}, {6, 3, 2, 0, 1}, {7, 3, 2, 1, 3}, {14, 6, 2, 1, 3}, {10, 4, 2, 1, 2}, {99, 100, 0, 99, 100}, {100, 100, 1, 0, 1}, {101, 100, 1, 1, 100}, {300, 8, 37, 1, 2},
		{math.MaxInt64, 1, math.MaxInt64, 0, 1}, {math.MaxInt64, 2, 1<<62 - 1, 1, 2}, {math.MaxInt64 - 1, math.MaxInt64, 0, math.MaxInt64 - 1, math.MaxInt64},
	} {
		whole, rest := small(t, x.num, x.den).Parts()
		checkWhole(t, "P8.2: Parts, the whole number", whole, big.NewInt(x.whole))
		check(t, "P8.2: Parts, the rest", rest, big.NewRat(x.restNum, x.restDen))
		again, same := rest.Parts()
		checkWhole(t, "P8.2: Parts of the rest, the whole number", again, new(big.Int))
		check(t, "P8.2: Parts of the rest, the rest", same, big.NewRat(x.restNum, x.restDen))
	}
}

func TestScaleByEachPower(t *testing.T) {
	rats := []*big.Rat{new(big.Rat), big.NewRat(1, 1), big.NewRat(3, 8), big.NewRat(200, 7), big.NewRat(1, 3)}
	for _, b := range []uint64{1, 1 << 52, 0x3FB999999999999A, greatest} {
		rats = append(rats, new(big.Rat).SetFloat64(math.Float64frombits(b)))
	}
	for _, m := range rats {
		r := of(t, m.Num(), m.Denom())
		for k := -5000; k <= 5000; k += 97 {
			check(t, "P8.2: Scale", r.Scale(k), new(big.Rat).Mul(m, tenTo(k)))
		}
		for _, k := range []int{-5000, -4999, -2, -1, 0, 1, 2, 4999, 5000} {
			check(t, "P8.2: Scale", r.Scale(k), new(big.Rat).Mul(m, tenTo(k)))
			check(t, "P8.2: Scale, and back", r.Scale(k).Scale(-k), m)
		}
	}
}

func TestScaleTooFar(t *testing.T) {
	for _, k := range []int{math.MinInt, math.MinInt + 1, math.MinInt32, -10000, -5002, -5001, 5001, 5002, 10000, math.MaxInt32, math.MaxInt - 1, math.MaxInt} {
		for _, r := range []ratio.Ratio{{}, small(t, 1, 1), small(t, 3, 8), of(t, power(10, 6000, 0), big.NewInt(1)), of(t, big.NewInt(1), power(10, 6000, 0))} {
			check(t, "P8.2: Scale by a power too far", r.Scale(k), new(big.Rat))
		}
	}
}

func TestScaleOften(t *testing.T) {
	// The range is that of one call: what was scaled may be scaled again.
	m := big.NewRat(21, 4)
	r := small(t, 21, 4)
	for range 3 {
		r, m = r.Scale(5000), m.Mul(m, tenTo(5000))
		check(t, "P8.2: Scale, again", r, m)
	}
	for range 6 {
		r, m = r.Scale(-5000), m.Mul(m, tenTo(-5000))
		check(t, "P8.2: Scale, again", r, m)
	}
}

// checkValue: what P8.1 says of the value of bits.
func checkValue(t *testing.T, b uint64) {
	t.Helper()
	f := math.Abs(math.Float64frombits(b))
	r, ok := ratio.Value(bits.Of(b))
	if math.IsNaN(f) || math.IsInf(f, 0) {
		if ok {
			t.Errorf("P8.1: Value of %X: true", b)
		}
		check(t, "P8.1: beside false", r, new(big.Rat))
		return
	}
	if !ok {
		t.Errorf("P8.1: Value of %X: false", b)
	}
	check(t, "P8.1: Value", r, new(big.Rat).SetFloat64(f))
}

func TestValueOfEachExponent(t *testing.T) {
	for exponent := range uint64(2048) {
		for _, fraction := range []uint64{0, 1, 2, 3, 1<<51 - 1, 1 << 51, 3 << 50, 1<<52 - 2, 1<<52 - 1} {
			checkValue(t, exponent<<52|fraction)
			checkValue(t, sign|exponent<<52|fraction)
		}
	}
}

func TestManyValues(t *testing.T) {
	source := rand.New(rand.NewSource(8))
	for range 20000 {
		checkValue(t, source.Uint64())
		checkValue(t, math.Float64bits(float64(source.Int63n(1<<40))/float64(int64(1)<<source.Intn(40))))
	}
}

func TestValueWithoutItsSign(t *testing.T) {
	for _, v := range []bits.Value{
		{}, {Class: bits.Finite, Mant: 1, Exp: -1074}, {Class: bits.Finite, Mant: 3 << 51, Exp: -53}, {Class: bits.Finite, Mant: 1 << 52, Exp: -51}, {Class: bits.Finite, Mant: 1<<53 - 1}, {Class: bits.Finite, Mant: 1<<53 - 1, Exp: 971},
	} {
		plus, ok := ratio.Value(v)
		v.Negative = true
		minus, minusOk := ratio.Value(v)
		if !ok || !minusOk {
			t.Errorf("P8.1: Value of %+v: %v, and %v with the sign 0", v, minusOk, ok)
		}
		checkSame(t, "P8.1: both signs", plus, minus, small(t, 1, 1))
	}
}

func TestValuesOfNone(t *testing.T) {
	for _, v := range []bits.Value{
		{Mant: 1}, {Exp: 1}, {Exp: -1074}, {Negative: true, Mant: 1}, {Negative: true, Exp: -1}, {Mant: 1 << 52, Exp: -52}, {Mant: 1 << 52, Exp: math.MinInt}, {Exp: math.MaxInt},
		{Class: bits.Finite}, {Class: bits.Finite, Exp: -1074}, {Class: bits.Finite, Negative: true}, {Class: bits.Finite, Exp: 971},
		{Class: bits.Finite, Mant: 1}, {Class: bits.Finite, Mant: 1, Exp: -1073}, {Class: bits.Finite, Mant: 1, Exp: -1075}, {Class: bits.Finite, Mant: 1<<52 - 1, Exp: -1073}, {Class: bits.Finite, Mant: 1<<52 - 1, Exp: 0},
		{Class: bits.Finite, Mant: 1 << 53}, {Class: bits.Finite, Mant: 1 << 53, Exp: -1074}, {Class: bits.Finite, Mant: 1 << 53, Exp: 970}, {Class: bits.Finite, Mant: 1 << 63}, {Class: bits.Finite, Mant: math.MaxUint64},
		{Class: bits.Finite, Mant: 1 << 52, Exp: 972}, {Class: bits.Finite, Mant: 1<<53 - 1, Exp: 972}, {Class: bits.Finite, Mant: 1 << 52, Exp: -1075}, {Class: bits.Finite, Mant: 1 << 52, Exp: 4096 - 1074},
		{Class: bits.Finite, Mant: 1 << 52, Exp: math.MaxInt}, {Class: bits.Finite, Mant: 1 << 52, Exp: math.MinInt}, {Class: bits.Finite, Negative: true, Mant: 1 << 52, Exp: math.MinInt + 1},
		{Class: bits.Infinite}, {Class: bits.Infinite, Negative: true}, {Class: bits.Infinite, Mant: 1}, {Class: bits.Infinite, Mant: 1 << 52, Exp: 972}, {Class: bits.Infinite, Exp: math.MinInt},
		{Class: bits.Nothing}, {Class: bits.Nothing, Negative: true}, {Class: bits.Nothing, Mant: 1 << 52, Exp: -52}, {Class: bits.Nothing, Exp: math.MaxInt},
		{Class: -1}, {Class: 4}, {Class: 9}, {Class: 4, Mant: 1 << 52, Exp: -52}, {Class: -1, Negative: true}, {Class: math.MinInt}, {Class: math.MaxInt},
	} {
		r, ok := ratio.Value(v)
		if ok {
			t.Errorf("P8.1: Value of %+v: true", v)
		}
		check(t, "P8.1: beside false", r, new(big.Rat))
	}
}

func TestWhateverTermsTheyCameOf(t *testing.T) {
	factors := []*big.Int{big.NewInt(2), big.NewInt(3), big.NewInt(60), power(2, 32, 0), power(2, 64, 0), power(2, 77, 0), power(10, 40, 0), power(3, 100, 0), power(2, 521, -1)}
	others := []ratio.Ratio{{}, small(t, 1, 1), small(t, 7, 12), of(t, power(10, 30, 1), power(2, 70, 0))}
	for _, num := range terms {
		for _, den := range terms[1:] {
			a := of(t, num, den)
			factor := factors[(num.BitLen()+den.BitLen())%len(factors)]
			b := of(t, new(big.Int).Mul(num, factor), new(big.Int).Mul(den, factor))
			for _, other := range others {
				checkSame(t, "P8.3: both terms times a number", a, b, other)
			}
		}
	}
}

func TestLaws(t *testing.T) {
	all := []ratio.Ratio{{}, small(t, 1, 1), small(t, 1, 2), small(t, 5, 6), small(t, 22, 7), small(t, 1000, 3), of(t, big.NewInt(1), power(2, 64, 0)), of(t, power(2, 64, -1), big.NewInt(3)), of(t, power(10, 25, 0), power(2, 80, 1)), of(t, power(3, 50, 0), power(10, 20, 0))}
	for _, a := range all {
		for _, b := range all {
			for _, c := range all {
				checkLaws(t, a, b, c)
			}
		}
	}
}

func TestMany(t *testing.T) {
	source := rand.New(rand.NewSource(80))
	pick := func() *big.Int {
		return new(big.Int).Rand(source, power(2, int64(source.Intn(300)), 0))
	}
	lower := func() *big.Int {
		n := pick()
		return n.Add(n, big.NewInt(1))
	}
	quotient := func() (ratio.Ratio, *big.Rat) {
		num, den := pick(), lower()
		if source.Intn(2) == 0 {
			common := lower()
			num.Mul(num, common)
			den.Mul(den, common)
		}
		return of(t, num, den), new(big.Rat).SetFrac(num, den)
	}
	for range 1500 {
		a, m := quotient()
		b, n := quotient()
		checkOne(t, a, m)
		checkPair(t, a, b, m, n)
	}
	for range 50 {
		a, _ := quotient()
		b, _ := quotient()
		c, _ := quotient()
		checkLaws(t, a, b, c)
	}
}

func TestLongTerms(t *testing.T) {
	source := rand.New(rand.NewSource(800))
	for _, limbs := range []int64{api.MaxLimbs / 8, api.MaxLimbs / 4} {
		var l [4]*big.Int
		for i := range l {
			n := new(big.Int).Rand(source, power(2, 32*limbs, 0))
			l[i] = n.Add(n, big.NewInt(1))
		}
		m, n := new(big.Rat).SetFrac(l[0], l[1]), new(big.Rat).SetFrac(l[2], l[3])
		a, b := of(t, l[0], l[1]), of(t, l[2], l[3])
		checkOne(t, a, m)
		checkPair(t, a, b, m, n)
	}
	for _, limbs := range []int64{api.MaxLimbs - 1, api.MaxLimbs, api.MaxLimbs + 1} {
		long, one := power(2, 32*limbs, -1), big.NewInt(1)
		m, n := new(big.Rat).SetInt(long), new(big.Rat).SetFrac(one, long)
		a, b := of(t, long, one), of(t, one, long)
		checkOne(t, a, m)
		checkOne(t, b, n)
		checkPair(t, a, b, m, n)
		checkPair(t, b, b, n, n)
	}
}

func TestTermsAreOnesOwn(t *testing.T) {
	limbs := []uint32{7, 8, 9}
	r, _ := ratio.Of(nat.Made(limbs), nat.Of(5))
	want := new(big.Rat).SetFrac(bigOf(limbs), big.NewInt(5))
	clear(limbs)
	num, den := r.Terms()
	clear(num.Limbs())
	clear(den.Limbs())
	whole, rest := r.Parts()
	clear(whole.Limbs())
	check(t, "Rule 4: a Ratio, after what it was made of and what it told was written over", r, want)
	restNum, restDen := rest.Terms()
	clear(restNum.Limbs())
	clear(restDen.Limbs())
	checkOne(t, r, want)
}

func TestExamples(t *testing.T) {
	whole, rest := small(t, 7, 3).Parts()
	checkWhole(t, "P8.2: Parts of 7/3, the whole number", whole, big.NewInt(2))
	check(t, "P8.2: Parts of 7/3, the rest", rest, big.NewRat(1, 3))
}

func FuzzQuotients(f *testing.F) {
	for i, num := range terms {
		f.Add(num.Bytes(), terms[(i+5)%len(terms)].Bytes(), terms[(i+11)%len(terms)].Bytes(), terms[(i+17)%len(terms)].Bytes(), i*417-5000)
	}
	f.Fuzz(func(t *testing.T, aNum, aDen, bNum, bDen []byte, k int) {
		lower := func(b []byte) *big.Int {
			n := new(big.Int).SetBytes(b)
			return n.Add(n, big.NewInt(1))
		}
		m := new(big.Rat).SetFrac(new(big.Int).SetBytes(aNum), lower(aDen))
		n := new(big.Rat).SetFrac(new(big.Int).SetBytes(bNum), lower(bDen))
		a := of(t, new(big.Int).SetBytes(aNum), lower(aDen))
		b := of(t, new(big.Int).SetBytes(bNum), lower(bDen))
		checkOne(t, a, m)
		checkPair(t, a, b, m, n)
		want := new(big.Rat)
		if k >= -5000 && k <= 5000 {
			want.Mul(m, tenTo(k))
		}
		check(t, "P8.2: Scale", a.Scale(k), want)
	})
}
