package bits_test

import (
	"encoding/binary"
	"math"
	"math/big"
	"math/rand"
	"slices"
	"testing"

	"numerary/api"
	"numerary/bits"
	"numerary/nat"
	"numerary/tens"
	"numerary/times"
)

const (
	sign     = 1 << 63
	infinite = 0x7FF0000000000000
	nothing  = 0x7FF8000000000000
	greatest = 0x7FEFFFFFFFFFFFFF
)

// fractions: those at which an exponent's numbers begin, end, or are in the middle.
var fractions = []uint64{0, 1, 2, 3, 1 << 32, 1<<51 - 1, 1 << 51, 1<<51 + 1, 1<<52 - 2, 1<<52 - 1}

// edges: bits that aren't negative, at which their class, Exp or size turns.
var edges = []uint64{
	0, 1, 2, 3, 4, 1 << 51, 1<<52 - 2, 1<<52 - 1, 1 << 52, 1<<52 + 1, 2<<52 - 1, 2 << 52, 2<<52 + 1,
	0x3FB999999999999A, 0x3FE0000000000000, 0x3FEFFFFFFFFFFFFF, 0x3FF0000000000000, 0x3FF0000000000001, 0x4000000000000000, 0x4008000000000000,
	0x432FFFFFFFFFFFFF, 0x4330000000000000, 0x433FFFFFFFFFFFFF, 0x4340000000000000, 0x4340000000000001, 0x43F0000000000000,
	0x7FD0000000000000, 0x7FDFFFFFFFFFFFFF, 0x7FE0000000000000, greatest - 1, greatest,
}

// each: bits of every exponent and both signs.
func each(visit func(b uint64)) {
	for exponent := range uint64(2048) {
		for _, fraction := range fractions {
			visit(exponent<<52 | fraction)
			visit(sign | exponent<<52 | fraction)
		}
	}
}

// bigOf is the number of limbs, put together by the library.
func bigOf(limbs []uint32) *big.Int {
	var b []byte
	for _, limb := range slices.Backward(limbs) {
		b = binary.BigEndian.AppendUint32(b, limb)
	}
	return new(big.Int).SetBytes(b)
}

// natOf: the Nat of n.
func natOf(n *big.Int) nat.Nat {
	bytes := n.FillBytes(make([]byte, (n.BitLen()+31)/32*4))
	var limbs []uint32
	for ; len(bytes) > 0; bytes = bytes[:len(bytes)-4] {
		limbs = append(limbs, binary.BigEndian.Uint32(bytes[len(bytes)-4:]))
	}
	return nat.Made(limbs)
}

// ratOf: the number that bits stand for, without their sign, by the library; of Infinite 2^1024.
func ratOf(b uint64) *big.Rat {
	b &^= sign
	if b == infinite {
		return new(big.Rat).SetInt(new(big.Int).Lsh(big.NewInt(1), 1024))
	}
	return new(big.Rat).SetFloat64(math.Float64frombits(b))
}

// middle: the number in the middle between two.
func middle(a, b *big.Rat) *big.Rat {
	sum := new(big.Rat).Add(a, b)
	return sum.Quo(sum, big.NewRat(2, 1))
}

// may: is v a value of some bits, as the chapter's words tell it?
func may(v bits.Value) bool {
	switch v.Class {
	case bits.Zero, bits.Infinite:
		return v.Mant == 0 && v.Exp == 0
	case bits.Nothing:
		return v.Mant == 0 && v.Exp == 0 && !v.Negative
	case bits.Finite:
		small := v.Exp == -1074 && v.Mant > 0 && v.Mant < 1<<52
		other := v.Exp >= 1-1075 && v.Exp <= 2046-1075 && v.Mant >= 1<<52 && v.Mant < 1<<53
		return small || other
	}
	return false
}

// classOf: the class of bits, by the library.
func classOf(b uint64) bits.Class {
	f := math.Float64frombits(b)
	switch {
	case math.IsNaN(f):
		return bits.Nothing
	case math.IsInf(f, 0):
		return bits.Infinite
	case f == 0:
		return bits.Zero
	}
	return bits.Finite
}

// checkOf: what P7.1 says of bits.
func checkOf(t *testing.T, b uint64) {
	t.Helper()
	v, class := bits.Of(b), classOf(b)
	if v.Class != class {
		t.Errorf("P7.1: Of %X: the class is %d; want %d", b, v.Class, class)
	}
	if !may(v) {
		t.Errorf("P7.1: Of %X: %+v", b, v)
	}
	if v.Negative != (b >= sign && class != bits.Nothing) {
		t.Errorf("P7.1: Of %X: Negative is %v", b, v.Negative)
	}
	if class == bits.Finite && math.Ldexp(float64(v.Mant), v.Exp) != math.Float64frombits(b&^sign) {
		t.Errorf("P7.1: Of %X: %+v isn't %v", b, v, math.Float64frombits(b))
	}
}

// checkBack: what P7.3 says of the bits of a value of bits.
func checkBack(t *testing.T, b uint64) {
	t.Helper()
	want := b
	if classOf(b) == bits.Nothing {
		want = nothing
	}
	if back, ok := bits.Of(b).Bits(); back != want || !ok {
		t.Errorf("P7.3: Bits of Of %X: %X, %v; want %X", b, back, ok, want)
	}
}

// checkValue: what P7.1 says of the bits of a value, whatever it is.
func checkValue(t *testing.T, v bits.Value) {
	t.Helper()
	b, ok := v.Bits()
	if ok != may(v) {
		t.Errorf("P7.1: Bits of %+v: %X, %v", v, b, ok)
	}
	if ok && bits.Of(b) != v {
		t.Errorf("P7.1: Bits of %+v: %X, which are %+v", v, b, bits.Of(b))
	}
	if !ok && b != 0 {
		t.Errorf("P7.1: Bits of %+v: %X beside false", v, b)
	}
}

// checkNear: what P7.2 says of a quotient, by the distances to the bits on both sides.
func checkNear(t *testing.T, r *big.Rat) {
	t.Helper()
	b, ok := bits.Nearest(natOf(r.Num()), natOf(r.Denom()))
	if !ok || b > infinite {
		t.Errorf("P7.2: Nearest to %s: %X, %v", short(r), b, ok)
		return
	}
	away := func(other uint64) *big.Rat {
		d := new(big.Rat).Sub(ratOf(other), r)
		return d.Abs(d)
	}
	for _, other := range []uint64{b - 1, b + 1} {
		// From 0 and from Infinite there are bits on one side alone.
		if other > infinite {
			continue
		}
		if order := away(b).Cmp(away(other)); order > 0 || order == 0 && b&1 != 0 {
			t.Errorf("P7.2: Nearest to %s: %X, but %X is to be taken", short(r), b, other)
		}
	}
	if f, _ := r.Float64(); math.Float64bits(f) != b {
		t.Errorf("P7.2: Nearest to %s: %X; the library says %X", short(r), b, math.Float64bits(f))
	}
}

// short: a number, for what is told of it.
func short(r *big.Rat) string {
	s := r.String()
	if len(s) <= 120 {
		return s
	}
	return s[:50] + " .. " + s[len(s)-50:]
}

// checkAround: what P7.2 and P7.3 say around bits that are below Infinite: at their value, in the middle to the next one, and just beside both.
func checkAround(t *testing.T, b uint64) {
	t.Helper()
	value := ratOf(b)
	if got, ok := bits.Nearest(natOf(value.Num()), natOf(value.Denom())); got != b || !ok {
		t.Errorf("P7.3: Nearest to the value of %X: %X, %v", b, got, ok)
	}
	half := middle(value, ratOf(b+1))
	even := b + b&1
	if got, _ := bits.Nearest(natOf(half.Num()), natOf(half.Denom())); got != even {
		t.Errorf("P7.2: Nearest to the middle behind %X: %X; want %X", b, got, even)
	}
	little := new(big.Rat).SetFrac(big.NewInt(1), new(big.Int).Lsh(big.NewInt(1), 1200))
	for _, r := range []*big.Rat{value, half} {
		checkNear(t, r)
		checkNear(t, new(big.Rat).Add(r, little))
		if r.Sign() > 0 {
			checkNear(t, new(big.Rat).Sub(r, little))
		}
	}
}

// checkNext: what P7.2 says of Next.
func checkNext(t *testing.T, b uint64) {
	t.Helper()
	next, ok := bits.Next(b)
	if b >= infinite {
		if next != 0 || ok {
			t.Errorf("P7.2: Next of %X: %X, %v; want 0, false", b, next, ok)
		}
		return
	}
	want := math.Float64bits(math.Nextafter(math.Float64frombits(b), math.Inf(1)))
	if next != want || !ok {
		t.Errorf("P7.2: Next of %X: %X, %v; want %X, true", b, next, ok, want)
	}
}

func TestOf(t *testing.T) {
	for _, x := range []struct {
		b uint64
		v bits.Value
	}{
		{0, bits.Value{}},
		{sign, bits.Value{Negative: true}},
		{1, bits.Value{Class: bits.Finite, Mant: 1, Exp: -1074}},
		{sign | 1, bits.Value{Class: bits.Finite, Negative: true, Mant: 1, Exp: -1074}},
		{1<<52 - 1, bits.Value{Class: bits.Finite, Mant: 1<<52 - 1, Exp: -1074}},
		{1 << 52, bits.Value{Class: bits.Finite, Mant: 1 << 52, Exp: -1074}},
		{1<<53 - 1, bits.Value{Class: bits.Finite, Mant: 1<<53 - 1, Exp: -1074}},
		{1 << 53, bits.Value{Class: bits.Finite, Mant: 1 << 52, Exp: -1073}},
		{0x3FF0000000000000, bits.Value{Class: bits.Finite, Mant: 1 << 52, Exp: -52}},
		{0xBFF0000000000000, bits.Value{Class: bits.Finite, Negative: true, Mant: 1 << 52, Exp: -52}},
		{0x4330000000000001, bits.Value{Class: bits.Finite, Mant: 1<<52 + 1}},
		{greatest, bits.Value{Class: bits.Finite, Mant: 1<<53 - 1, Exp: 971}},
		{sign | greatest, bits.Value{Class: bits.Finite, Negative: true, Mant: 1<<53 - 1, Exp: 971}},
		{infinite, bits.Value{Class: bits.Infinite}},
		{sign | infinite, bits.Value{Class: bits.Infinite, Negative: true}},
	} {
		if v := bits.Of(x.b); v != x.v {
			t.Errorf("P7.1: Of %X: %+v; want %+v", x.b, v, x.v)
		}
		if b, ok := x.v.Bits(); b != x.b || !ok {
			t.Errorf("P7.1: Bits of %+v: %X, %v; want %X", x.v, b, ok, x.b)
		}
	}
}

func TestEach(t *testing.T) {
	each(func(b uint64) {
		checkOf(t, b)
		checkBack(t, b)
		checkNext(t, b)
	})
}

func TestManyBits(t *testing.T) {
	source := rand.New(rand.NewSource(7))
	for range 200000 {
		b := source.Uint64()
		checkOf(t, b)
		checkBack(t, b)
		checkNext(t, b)
	}
}

func TestNothing(t *testing.T) {
	want := bits.Value{Class: bits.Nothing}
	for k := range 52 {
		for _, b := range []uint64{infinite | 1<<k, sign | infinite | 1<<k, math.MaxUint64 >> 1, math.MaxUint64} {
			if v := bits.Of(b); v != want {
				t.Errorf("P7.1: Of %X: %+v", b, v)
			}
		}
	}
	if b, ok := want.Bits(); b != nothing || !ok {
		t.Errorf("P7.1: Bits of Nothing: %X, %v", b, ok)
	}
}

func TestValuesOfNoBits(t *testing.T) {
	for _, v := range []bits.Value{
		{Mant: 1}, {Exp: 1}, {Exp: -1074}, {Negative: true, Mant: 1}, {Negative: true, Exp: -1}, {Mant: 1 << 52, Exp: -1074},
		{Class: bits.Finite}, {Class: bits.Finite, Exp: -1074}, {Class: bits.Finite, Negative: true, Exp: -1074}, {Class: bits.Finite, Exp: 971},
		{Class: bits.Finite, Mant: 1}, {Class: bits.Finite, Mant: 1, Exp: -1073}, {Class: bits.Finite, Mant: 1, Exp: -1075}, {Class: bits.Finite, Mant: 1<<52 - 1, Exp: -1073},
		{Class: bits.Finite, Mant: 1 << 53}, {Class: bits.Finite, Mant: 1 << 53, Exp: -1074}, {Class: bits.Finite, Mant: 1 << 53, Exp: 970}, {Class: bits.Finite, Mant: 1 << 63}, {Class: bits.Finite, Mant: math.MaxUint64},
		{Class: bits.Finite, Mant: 1 << 52, Exp: 972}, {Class: bits.Finite, Mant: 1<<53 - 1, Exp: 972}, {Class: bits.Finite, Mant: 1 << 52, Exp: -1075}, {Class: bits.Finite, Mant: 1 << 52, Exp: 973},
		{Class: bits.Finite, Mant: 1 << 52, Exp: 4096 - 1074}, {Class: bits.Finite, Mant: 1 << 52, Exp: 2048 - 1074}, {Class: bits.Finite, Negative: true, Mant: 1 << 52, Exp: 2048 - 1074}, {Class: bits.Finite, Mant: 1 << 52, Exp: -4096 - 1074},
		{Class: bits.Finite, Mant: 1 << 52, Exp: math.MaxInt}, {Class: bits.Finite, Mant: 1 << 52, Exp: math.MinInt},
		{Class: bits.Infinite, Mant: 1}, {Class: bits.Infinite, Exp: 1}, {Class: bits.Infinite, Mant: 1 << 52, Exp: 972}, {Class: bits.Infinite, Negative: true, Exp: -1},
		{Class: bits.Nothing, Negative: true}, {Class: bits.Nothing, Mant: 1}, {Class: bits.Nothing, Mant: 1 << 51}, {Class: bits.Nothing, Exp: 1}, {Class: bits.Nothing, Exp: 972},
		{Class: -1}, {Class: 4}, {Class: 9}, {Class: -1, Negative: true}, {Class: 4, Mant: 1 << 52, Exp: -52}, {Class: math.MinInt}, {Class: math.MaxInt},
	} {
		if b, ok := v.Bits(); b != 0 || ok {
			t.Errorf("P7.1: Bits of %+v: %X, %v; want 0, false", v, b, ok)
		}
	}
}

func TestAllKindsOfValues(t *testing.T) {
	mants := []uint64{0, 1, 2, 1<<51 - 1, 1 << 51, 1<<52 - 1, 1 << 52, 1<<52 + 1, 1<<53 - 1, 1 << 53, 1<<53 + 1, 1 << 54, 1<<63 - 1, 1 << 63, 1<<63 + 1, math.MaxUint64 - 1, math.MaxUint64}
	exps := []int{math.MinInt, math.MinInt + 1, math.MinInt32, -4096 - 1074, -2048 - 1074, -1076, -1075, -1074, -1073, -53, -52, -51, -1, 0, 1, 52, 970, 971, 972, 973, 974, 975, 2048 - 1074, 4096 - 1074, math.MaxInt32, math.MaxInt - 1074, math.MaxInt - 1, math.MaxInt}
	for class := bits.Class(-2); class < 7; class++ {
		for _, mant := range mants {
			for _, exp := range exps {
				checkValue(t, bits.Value{Class: class, Mant: mant, Exp: exp})
				checkValue(t, bits.Value{Class: class, Negative: true, Mant: mant, Exp: exp})
			}
		}
	}
}

func TestNearest(t *testing.T) {
	for _, x := range []struct {
		num, den nat.Nat
		b        uint64
	}{
		{nat.Of(1), nat.Of(1), 0x3FF0000000000000}, {nat.Of(1), nat.Of(3), 0x3FD5555555555555}, {nat.Of(2), nat.Of(3), 0x3FE5555555555555}, {nat.Of(1), nat.Of(10), 0x3FB999999999999A}, {nat.Of(3), nat.Of(10), 0x3FD3333333333333},
		{nat.Of(1<<53 - 1), nat.Of(1), 0x433FFFFFFFFFFFFF}, {nat.Of(1<<54 - 1), nat.Of(1), 0x4350000000000000}, {nat.Of(1<<54 - 1), nat.Of(2), 0x4340000000000000}, {nat.Of(1<<54 - 3), nat.Of(2), 0x433FFFFFFFFFFFFE},
		{nat.Of(1<<53 + 1), nat.Of(1), 0x4340000000000000}, {nat.Of(1<<53 + 3), nat.Of(1), 0x4340000000000002}, {nat.Of(math.MaxUint64), nat.Of(1), 0x43F0000000000000},
		{nat.Of(1), tens.Up(nat.Of(1), 1075), 0}, {nat.Of(1<<20 + 1), tens.Up(nat.Of(1), 1095), 1}, {nat.Of(1<<20 - 1), tens.Up(nat.Of(1), 1095), 0}, {nat.Of(3), tens.Up(nat.Of(1), 1075), 2}, {nat.Of(5), tens.Up(nat.Of(1), 1075), 2},
		{nat.Of(1<<53 - 1), tens.Up(nat.Of(1), 1075), 1 << 52}, {nat.Of(1<<53 - 3), tens.Up(nat.Of(1), 1075), 1<<52 - 2},
		{tens.Ten(22), nat.Of(1), 0x4480F0CF064DD592}, {tens.Ten(23), nat.Of(1), 0x44B52D02C7E14AF6}, {tens.Ten(308), nat.Of(1), 0x7FE1CCF385EBC8A0}, {tens.Ten(309), nat.Of(1), infinite}, {nat.Of(1), tens.Ten(323), 2}, {nat.Of(1), tens.Ten(324), 0},
	} {
		if b, ok := bits.Nearest(x.num, x.den); b != x.b || !ok {
			t.Errorf("P7.2: Nearest to %X by %X: %X, %v; want %X", x.num.Limbs(), x.den.Limbs(), b, ok, x.b)
		}
	}
}

func TestNearestToInfinite(t *testing.T) {
	// The greatest one is 2^1024 - 2^971, so that the middle is 2^1024 - 2^970, and Infinite is the even one there.
	power := tens.Up(nat.Of(1), 1024)
	half, _ := nat.Sub(power, tens.Up(nat.Of(1), 970))
	below, _ := nat.Sub(half, nat.Of(1))
	for _, x := range []struct {
		num nat.Nat
		b   uint64
	}{
		{below, greatest}, {half, infinite}, {nat.Add(half, nat.Of(1)), infinite}, {power, infinite}, {tens.Up(power, 1), infinite}, {tens.Up(power, 100000), infinite}, {tens.Ten(5000), infinite},
	} {
		for _, den := range []nat.Nat{nat.Of(1), nat.Of(3), tens.Ten(400)} {
			if b, ok := bits.Nearest(times.Mul(x.num, den), den); b != x.b || !ok {
				t.Errorf("P7.2: Nearest to %X: %X, %v; want %X", x.num.Limbs(), b, ok, x.b)
			}
		}
	}
}

func TestNearestByNought(t *testing.T) {
	for _, den := range []nat.Nat{{}, nat.Of(0), nat.Made(make([]uint32, 5))} {
		for _, num := range []nat.Nat{{}, nat.Of(1), nat.Of(math.MaxUint64), tens.Ten(400)} {
			if b, ok := bits.Nearest(num, den); b != 0 || ok {
				t.Errorf("P7.2: Nearest to %X by 0: %X, %v", num.Limbs(), b, ok)
			}
		}
	}
}

func TestNearestToNought(t *testing.T) {
	for _, num := range []nat.Nat{{}, nat.Of(0), nat.Made(make([]uint32, 5))} {
		for _, den := range []nat.Nat{nat.Of(1), nat.Of(7), nat.Of(math.MaxUint64), tens.Ten(400), tens.Up(nat.Of(1), 5000)} {
			if b, ok := bits.Nearest(num, den); b != 0 || !ok {
				t.Errorf("P7.2: Nearest to 0 by %X: %X, %v", den.Limbs(), b, ok)
			}
		}
	}
}

func TestNearestAroundEdges(t *testing.T) {
	for _, b := range edges {
		checkAround(t, b)
	}
	for exponent := uint64(0); exponent < 2047; exponent += 23 {
		for _, fraction := range fractions {
			checkAround(t, exponent<<52|fraction)
		}
	}
}

func TestNearestToEachValue(t *testing.T) {
	each(func(b uint64) {
		if b >= infinite {
			return
		}
		v := bits.Of(b)
		num, den := tens.Up(nat.Of(v.Mant), v.Exp), tens.Up(nat.Of(1), -v.Exp)
		for _, by := range []nat.Nat{nat.Of(1), nat.Of(3), tens.Up(nat.Of(1), 77), tens.Ten(30)} {
			if got, ok := bits.Nearest(times.Mul(num, by), times.Mul(den, by)); got != b || !ok {
				t.Errorf("P7.3: Nearest to the value of %X, both terms times %X: %X, %v", b, by.Limbs(), got, ok)
			}
		}
	})
}

func TestNearestToPowers(t *testing.T) {
	for k := range 400 {
		ten := bigOf(tens.Ten(k).Limbs())
		for _, n := range []int64{1, 3, 7, 9, 123456789, math.MaxInt64} {
			checkNear(t, new(big.Rat).SetFrac(big.NewInt(n), ten))
			checkNear(t, new(big.Rat).SetInt(new(big.Int).Mul(big.NewInt(n), ten)))
		}
	}
	for k := range 1200 {
		two := new(big.Int).Lsh(big.NewInt(1), uint(k))
		for _, near := range []int64{-1, 0, 1} {
			n := new(big.Int).Add(two, big.NewInt(near))
			if n.Sign() > 0 {
				checkNear(t, new(big.Rat).SetInt(n))
				checkNear(t, new(big.Rat).SetFrac(big.NewInt(1), n))
				checkNear(t, new(big.Rat).SetFrac(big.NewInt(1<<53+1), n))
			}
		}
	}
}

func TestNearestToMany(t *testing.T) {
	source := rand.New(rand.NewSource(71))
	pick := func() *big.Int {
		n := new(big.Int).Rand(source, new(big.Int).Lsh(big.NewInt(1), uint(1+source.Intn(1300))))
		return n.Add(n, big.NewInt(1))
	}
	for range 5000 {
		checkNear(t, new(big.Rat).SetFrac(pick(), pick()))
	}
	for range 3000 {
		checkAround(t, source.Uint64()%infinite)
	}
}

func TestNearestKeepsTheOrder(t *testing.T) {
	source := rand.New(rand.NewSource(72))
	last := uint64(0)
	num, den := nat.Of(1<<53), nat.Of(3)
	for range 5000 {
		num = nat.Add(num, nat.Of(uint64(source.Intn(3))))
		b, _ := bits.Nearest(num, den)
		if b < last {
			t.Errorf("P5: Nearest to %X by 3: %X, and %X to a lesser one", num.Limbs(), b, last)
		}
		last = b
	}
}

func TestLongTerms(t *testing.T) {
	for _, size := range []int{api.MaxLimbs - 1, api.MaxLimbs, api.MaxLimbs + 1, 30000} {
		all := nat.Made(slices.Repeat([]uint32{math.MaxUint32}, size))
		power := tens.Up(nat.Of(1), 32*size)
		for _, x := range []struct {
			num, den nat.Nat
			b        uint64
		}{
			{all, all, 0x3FF0000000000000}, {all, power, 0x3FF0000000000000}, {power, all, 0x3FF0000000000000}, {all, nat.Of(1), infinite}, {power, nat.Of(math.MaxUint64), infinite}, {nat.Of(1), all, 0}, {nat.Of(math.MaxUint64), power, 0}, {times.Mul(all, nat.Of(1<<53+1)), all, 0x4340000000000000}, {nat.Add(times.Mul(all, nat.Of(1<<53+1)), nat.Of(1)), all, 0x4340000000000001},
		} {
			if b, ok := bits.Nearest(x.num, x.den); b != x.b || !ok {
				t.Errorf("P7.2: Nearest to a quotient of terms of %d and %d bits: %X, %v; want %X", x.num.Bits(), x.den.Bits(), b, ok, x.b)
			}
		}
	}
}

func TestTermsAreNotChanged(t *testing.T) {
	for _, terms := range [][2]nat.Nat{{nat.Of(10), nat.Of(3)}, {nat.Of(1), tens.Ten(400)}, {tens.Ten(200), nat.Of(7)}} {
		num, den := bigOf(terms[0].Limbs()), bigOf(terms[1].Limbs())
		bits.Nearest(terms[0], terms[1])
		if bigOf(terms[0].Limbs()).Cmp(num) != 0 || bigOf(terms[1].Limbs()).Cmp(den) != 0 {
			t.Errorf("P2.3: Nearest changed %X or %X", num, den)
		}
	}
}

func TestNext(t *testing.T) {
	for _, x := range []struct {
		b, next uint64
		ok      bool
	}{
		{0, 1, true}, {1, 2, true}, {1<<52 - 1, 1 << 52, true}, {1<<53 - 1, 1 << 53, true}, {0x3FEFFFFFFFFFFFFF, 0x3FF0000000000000, true}, {greatest - 1, greatest, true}, {greatest, infinite, true},
		{infinite, 0, false}, {infinite + 1, 0, false}, {nothing, 0, false}, {sign - 1, 0, false}, {sign, 0, false}, {sign | 1, 0, false}, {0xBFF0000000000000, 0, false}, {sign | greatest, 0, false}, {sign | infinite, 0, false}, {math.MaxUint64, 0, false},
	} {
		if next, ok := bits.Next(x.b); next != x.next || ok != x.ok {
			t.Errorf("P7.2: Next of %X: %X, %v; want %X, %v", x.b, next, ok, x.next, x.ok)
		}
	}
	for _, b := range edges {
		checkNext(t, b)
		next, _ := bits.Next(b)
		if ratOf(next).Cmp(ratOf(b)) <= 0 {
			t.Errorf("P7.2: Next of %X: %X, which isn't greater", b, next)
		}
	}
}

func TestExample(t *testing.T) {
	want := bits.Value{Class: bits.Finite, Mant: 1 << 52, Exp: -52}
	if v := bits.Of(0x3FF0000000000000); v != want {
		t.Errorf("P7.1: Of 1.0: %+v", v)
	}
}

func FuzzBits(f *testing.F) {
	for i, b := range edges {
		f.Add(b, edges[len(edges)-1-i], int(b>>52)-1075, 1+i%3)
	}
	f.Fuzz(func(t *testing.T, b, other uint64, exp, class int) {
		checkOf(t, b)
		checkBack(t, b)
		checkNext(t, b)
		checkValue(t, bits.Value{Class: bits.Class(class), Negative: other&1 == 0, Mant: b, Exp: exp})
		checkAround(t, b%infinite)
		if num, den := ratOf(b%infinite), ratOf(other%infinite); den.Sign() > 0 {
			checkNear(t, num.Quo(num, den))
		}
	})
}
