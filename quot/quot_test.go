package quot_test

import (
	"encoding/binary"
	"math/big"
	"math/rand"
	"slices"
	"testing"

	"numerary/api"
	"numerary/nat"
	"numerary/quot"
	"numerary/times"
)

const top = 0xFFFFFFFF

// edges: limbs at which a quotient's digits, its borrows or its size turn; none of them ends in a nought.
var edges = [][]uint32{
	nil,
	{1}, {2}, {3}, {10}, {0x10000}, {0x7FFFFFFF}, {0x80000000}, {0x80000001}, {top - 1}, {top},
	{0, 1}, {1, 1}, {top, 1}, {0, 0x80000000}, {1, 0x80000000}, {top, 0x80000000}, {top, 0x7FFFFFFF}, {0, top}, {top, top},
	{0, 0, 1}, {1, 0, 1}, {top, 0, 1}, {0, 0, 0x80000000}, {1, 0, 0x80000000}, {top, 0, 0x80000000}, {top, top, 0x7FFFFFFF}, {0, top, top - 1}, {top, 0, top}, {top, top, top},
	{5, 0, 0, 7}, {0, 0, 0, 0x80000000}, {top, top, 0, 0x80000000}, {0, 0, top, top}, {top, top, top, top},
}

// bigOf is the number of limbs, put together by the library.
func bigOf(limbs []uint32) *big.Int {
	var b []byte
	for _, limb := range slices.Backward(limbs) {
		b = binary.BigEndian.AppendUint32(b, limb)
	}
	return new(big.Int).SetBytes(b)
}

// limbsOf: the limbs of n.
func limbsOf(n *big.Int) []uint32 {
	bytes := n.FillBytes(make([]byte, (n.BitLen()+31)/32*4))
	var limbs []uint32
	for ; len(bytes) > 0; bytes = bytes[:len(bytes)-4] {
		limbs = append(limbs, binary.BigEndian.Uint32(bytes[len(bytes)-4:]))
	}
	return limbs
}

// check: a is to be n, with no nought as its last limb.
func check(t *testing.T, what string, a nat.Nat, n *big.Int) {
	t.Helper()
	limbs := a.Limbs()
	if bigOf(limbs).Cmp(n) != 0 {
		t.Errorf("%s: %X; want %X", what, bigOf(limbs), n)
	}
	if len(limbs) > 0 && limbs[len(limbs)-1] == 0 {
		t.Errorf("%s: of %X: the last limb is 0", what, n)
	}
	if a.Bits() != n.BitLen() {
		t.Errorf("%s: of %X: Bits %d; want %d", what, n, a.Bits(), n.BitLen())
	}
}

// checkByNought: what P4.1 says where the divisor is 0.
func checkByNought(t *testing.T, a nat.Nat) {
	t.Helper()
	for _, nought := range []nat.Nat{{}, nat.Of(0), nat.Made([]uint32{0, 0, 0})} {
		whole, rest, ok := quot.Div(a, nought)
		if ok || len(whole.Limbs()) > 0 || len(rest.Limbs()) > 0 {
			t.Errorf("P4.1: Div of %X by 0: %X, %X, %v", a.Limbs(), whole.Limbs(), rest.Limbs(), ok)
		}
		near, ok := quot.Half(a, nought)
		if ok || len(near.Limbs()) > 0 {
			t.Errorf("P4.1: Half of %X by 0: %X, %v", a.Limbs(), near.Limbs(), ok)
		}
	}
}

// halfUp: the whole number next to m divided by n, by way of the floor of m/n + 1/2.
func halfUp(m, n *big.Int) *big.Int {
	double := new(big.Int).Lsh(m, 1)
	return double.Div(double.Add(double, n), new(big.Int).Lsh(n, 1))
}

// checkQuotient: what P4.1 says of a divisor that isn't 0.
func checkQuotient(t *testing.T, a, b nat.Nat) {
	t.Helper()
	m, n := bigOf(a.Limbs()), bigOf(b.Limbs())
	q, r := new(big.Int).QuoRem(m, n, new(big.Int))
	whole, rest, ok := quot.Div(a, b)
	if !ok {
		t.Errorf("P4.1: Div of %X by %X: false", m, n)
	}
	check(t, "P4.1: Div's quotient", whole, q)
	check(t, "P4.1: Div's rest", rest, r)
	if nat.Cmp(rest, b) >= 0 {
		t.Errorf("P4.1: Div of %X by %X: the rest is %X", m, n, rest.Limbs())
	}
	check(t, "P4.1: the quotient times the divisor, and the rest", nat.Add(times.Mul(whole, b), rest), m)
	near, ok := quot.Half(a, b)
	if !ok {
		t.Errorf("P4.1: Half of %X by %X: false", m, n)
	}
	check(t, "P4.1: Half", near, halfUp(m, n))
}

// checkPair: what P4.1 and P4.2 say of two numbers.
func checkPair(t *testing.T, left, right []uint32) {
	t.Helper()
	a, b := nat.Made(left), nat.Made(right)
	m, n := bigOf(left), bigOf(right)
	if n.Sign() == 0 {
		checkByNought(t, a)
	} else {
		checkQuotient(t, a, b)
	}
	want := new(big.Int).GCD(nil, nil, m, n)
	check(t, "P4.2: Gcd", quot.Gcd(a, b), want)
	check(t, "P4.2: Gcd, the other way round", quot.Gcd(b, a), want)
	check(t, "P2.3: the first number, after all", a, m)
	check(t, "P2.3: the second number, after all", b, n)
}

// checkAround: P4.1 where quotients turn: at a product of two numbers, at that and a half, and one below and above.
func checkAround(t *testing.T, digits, by []uint32) {
	t.Helper()
	n := bigOf(by)
	product := new(big.Int).Mul(bigOf(digits), n)
	for _, more := range []*big.Int{new(big.Int), new(big.Int).Rsh(n, 1), n} {
		for near := int64(-2); near <= 2; near++ {
			m := new(big.Int).Add(product, more)
			m.Add(m, big.NewInt(near))
			if m.Sign() >= 0 {
				checkQuotient(t, nat.Made(limbsOf(m)), nat.Made(by))
			}
		}
	}
}

func TestPairsOfEdges(t *testing.T) {
	for _, a := range edges {
		for _, b := range edges {
			checkPair(t, a, b)
		}
	}
}

func TestAroundProductsOfEdges(t *testing.T) {
	for _, digits := range edges {
		for _, by := range edges[1:] {
			checkAround(t, digits, by)
		}
	}
}

func TestAllLimbsOfEdges(t *testing.T) {
	turns := []uint32{0, 1, 0x7FFFFFFF, 0x80000000, top - 1, top}
	var short, long [][]uint32
	for _, x := range turns {
		for _, y := range turns {
			short = append(short, []uint32{x, y})
			for _, z := range turns {
				short = append(short, []uint32{x, y, z})
				for _, last := range turns {
					long = append(long, []uint32{x, y, z, last})
				}
			}
		}
	}
	for _, a := range long {
		for _, b := range short {
			if bigOf(b).Sign() > 0 {
				checkQuotient(t, nat.Made(a), nat.Made(b))
			}
		}
	}
}

func TestAllSmall(t *testing.T) {
	for a := range 70 {
		for b := range 70 {
			checkPair(t, []uint32{uint32(a)}, []uint32{uint32(b)})
		}
	}
}

func TestByOneAndItself(t *testing.T) {
	for _, limbs := range edges {
		a, n := nat.Made(limbs), bigOf(limbs)
		whole, rest, ok := quot.Div(a, nat.Of(1))
		if !ok {
			t.Errorf("P4.1: Div of %X by 1: false", limbs)
		}
		check(t, "P4.1: Div by 1, the quotient", whole, n)
		check(t, "P4.1: Div by 1, the rest", rest, new(big.Int))
		if n.Sign() > 0 {
			whole, rest, _ = quot.Div(a, a)
			check(t, "P4.1: Div by itself, the quotient", whole, big.NewInt(1))
			check(t, "P4.1: Div by itself, the rest", rest, new(big.Int))
		}
	}
}

func TestByNought(t *testing.T) {
	for _, limbs := range edges {
		checkByNought(t, nat.Made(limbs))
	}
}

func TestHalf(t *testing.T) {
	for _, x := range []struct{ a, b, near uint64 }{
		{0, 1, 0}, {0, 2, 0}, {1, 1, 1}, {1, 2, 1}, {1, 3, 0}, {2, 3, 1}, {3, 2, 2}, {5, 2, 3}, {7, 2, 4},
		{2, 5, 0}, {3, 5, 1}, {7, 5, 1}, {8, 5, 2}, {5, 10, 1}, {4, 10, 0}, {14, 10, 1}, {15, 10, 2}, {16, 10, 2}, {25, 10, 3},
		{1<<63 - 1, 1<<64 - 1, 0}, {1 << 63, 1<<64 - 1, 1}, {1<<64 - 1, 2, 1 << 63}, {1<<33 - 1, 2, 1 << 32}, {1<<64 - 1, 1<<33 + 1, 1 << 31},
	} {
		near, ok := quot.Half(nat.Of(x.a), nat.Of(x.b))
		if n, small := near.Small(); !ok || !small || n != x.near {
			t.Errorf("P4.1: Half of %d by %d: %X, %v; want %d", x.a, x.b, near.Limbs(), ok, x.near)
		}
	}
}

func TestHalfGrowsByALimb(t *testing.T) {
	for size := range 5 {
		double := append([]uint32{top}, slices.Repeat([]uint32{top}, size)...)
		double = append(double, 1)
		near, ok := quot.Half(nat.Made(double), nat.Of(2))
		if !ok {
			t.Errorf("P4.1: Half of %X by 2: false", double)
		}
		check(t, "P4.1: Half, with a limb more than the quotient", near, new(big.Int).Lsh(big.NewInt(1), uint(32*(size+1))))
	}
}

func TestMany(t *testing.T) {
	source := rand.New(rand.NewSource(4))
	turns := []uint32{0, 0, 1, 0x7FFFFFFF, 0x80000000, top - 1, top, top}
	pick := func() []uint32 {
		limbs := make([]uint32, source.Intn(9))
		for i := range limbs {
			limbs[i] = source.Uint32() >> source.Intn(32)
			if source.Intn(2) == 0 {
				limbs[i] = turns[source.Intn(len(turns))]
			}
		}
		return limbs
	}
	for range 5000 {
		a, b := pick(), pick()
		checkPair(t, a, b)
		if bigOf(b).Sign() > 0 {
			checkAround(t, a, b)
		}
	}
}

func TestLongNumbers(t *testing.T) {
	for _, size := range []int{api.MaxLimbs - 1, api.MaxLimbs, api.MaxLimbs + 1, 3000} {
		all := slices.Repeat([]uint32{top}, size)
		power := make([]uint32, size+1)
		power[size] = 1
		half := slices.Repeat([]uint32{0x80000000}, size/2)
		for _, a := range [][]uint32{all, power, half} {
			for _, b := range [][]uint32{all, power, half, {top}, {3}, {1}} {
				checkQuotient(t, nat.Made(a), nat.Made(b))
			}
			checkByNought(t, nat.Made(a))
			check(t, "P4.2: Gcd of a long number and 0", quot.Gcd(nat.Made(a), nat.Nat{}), bigOf(a))
			check(t, "P4.2: Gcd of a long number and itself", quot.Gcd(nat.Made(a), nat.Made(a)), bigOf(a))
		}
		checkPair(t, all, []uint32{30})
	}
}

func TestLongGcd(t *testing.T) {
	source := rand.New(rand.NewSource(40))
	for _, bits := range []uint{500, 2000, api.MaxLimbs * 8} {
		limit := new(big.Int).Lsh(big.NewInt(1), bits)
		a, b := new(big.Int).Rand(source, limit), new(big.Int).Rand(source, limit)
		common := new(big.Int).Rand(source, limit)
		checkPair(t, limbsOf(a), limbsOf(b))
		checkPair(t, limbsOf(a.Mul(a, common)), limbsOf(b.Mul(b, common)))
	}
}

func TestGcdOfNoughts(t *testing.T) {
	var zero nat.Nat
	check(t, "P4.2: Gcd of 0 and 0", quot.Gcd(zero, zero), new(big.Int))
	check(t, "P4.2: Gcd of limbs that are all 0", quot.Gcd(nat.Made(make([]uint32, 3)), nat.Made(make([]uint32, 2))), new(big.Int))
	for _, limbs := range edges {
		a, n := nat.Made(limbs), bigOf(limbs)
		check(t, "P4.2: Gcd of a number and 0", quot.Gcd(a, zero), n)
		check(t, "P4.2: Gcd of 0 and a number", quot.Gcd(zero, a), n)
		check(t, "P4.2: Gcd of a number and itself", quot.Gcd(a, a), n)
		check(t, "P4.2: Gcd of a number and 1", quot.Gcd(a, nat.Of(1)), big.NewInt(1))
	}
}

func TestGcdDividesBoth(t *testing.T) {
	for _, common := range edges[1:] {
		for _, pair := range [][2]uint64{{1, 1}, {2, 3}, {1 << 40, 3486784401}, {1<<61 - 1, 1<<31 - 1}, {9, 10}} {
			factor := nat.Made(common)
			a, b := times.Mul(factor, nat.Of(pair[0])), times.Mul(factor, nat.Of(pair[1]))
			check(t, "P4.2: Gcd of two multiples that share no more", quot.Gcd(a, b), bigOf(common))
		}
	}
}

func TestGcdOfNeighboursInManySteps(t *testing.T) {
	// Each of these is the sum of the two ahead of it: no numbers of their size take more steps.
	a, b := nat.Of(0), nat.Of(1)
	for range 2000 {
		a, b = b, nat.Add(a, b)
	}
	check(t, "P4.2: Gcd", quot.Gcd(a, b), big.NewInt(1))
	check(t, "P4.2: Gcd, the other way round", quot.Gcd(b, a), big.NewInt(1))
	check(t, "P4.2: Gcd of multiples", quot.Gcd(times.Mul(a, nat.Of(77)), times.Mul(b, nat.Of(77))), big.NewInt(77))
}

func TestExamples(t *testing.T) {
	whole, rest, ok := quot.Div(times.Pow(nat.Of(10), 20), times.Pow(nat.Of(10), 10))
	if !ok {
		t.Errorf("P4.1: Div of 10^20 by 10^10: false")
	}
	check(t, "P4.1: Div of 10^20 by 10^10, the quotient", whole, big.NewInt(10000000000))
	check(t, "P4.1: Div of 10^20 by 10^10, the rest", rest, new(big.Int))
	near, ok := quot.Half(nat.Of(5), nat.Of(2))
	if !ok {
		t.Errorf("P4.1: Half of 5 by 2: false")
	}
	check(t, "P4.1: Half of 5 by 2", near, big.NewInt(3))
}

func FuzzQuotients(f *testing.F) {
	limbsIn := func(b []byte) []uint32 {
		var limbs []uint32
		for ; len(b) >= 4; b = b[4:] {
			limbs = append(limbs, binary.LittleEndian.Uint32(b))
		}
		return limbs
	}
	for i := range edges {
		var texts [2][]byte
		for j := range texts {
			for _, limb := range edges[(i+7*j)%len(edges)] {
				texts[j] = binary.LittleEndian.AppendUint32(texts[j], limb)
			}
		}
		f.Add(texts[0], texts[1])
	}
	f.Fuzz(func(t *testing.T, x, y []byte) {
		a, b := limbsIn(x), limbsIn(y)
		checkPair(t, a, b)
		if bigOf(b).Sign() > 0 {
			checkAround(t, a, b)
		}
	})
}
