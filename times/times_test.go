package times_test

import (
	"encoding/binary"
	"math"
	"math/big"
	"math/rand"
	"slices"
	"testing"

	"numerary/api"
	"numerary/nat"
	"numerary/times"
)

const top = 0xFFFFFFFF

// edges: limbs at which a product's carries or its size turn; none of them ends in a nought.
var edges = [][]uint32{
	nil,
	{1}, {2}, {3}, {10}, {0xFFFF}, {0x10000}, {0x80000000}, {top - 1}, {top},
	{0, 1}, {1, 1}, {top, 1}, {0, 0x80000000}, {0, top}, {top, top},
	{0, 0, 1}, {1, 0, 1}, {top, 0, top}, {top, top, top},
	{5, 0, 0, 7}, {top, 0, 0, 1}, {top, top, top, top},
}

// bigOf is the number of limbs, put together by the library.
func bigOf(limbs []uint32) *big.Int {
	var b []byte
	for _, limb := range slices.Backward(limbs) {
		b = binary.BigEndian.AppendUint32(b, limb)
	}
	return new(big.Int).SetBytes(b)
}

// check: a is to be n, with no nought as its last limb.
func check(t *testing.T, what string, a nat.Nat, n *big.Int) {
	t.Helper()
	limbs := a.Limbs()
	if bigOf(limbs).Cmp(n) != 0 {
		t.Errorf("%s: %X; want %X", what, bigOf(limbs), n)
	}
	if len(limbs) > 0 && limbs[len(limbs)-1] == 0 {
		t.Errorf("%s: of %X: the last limb is 0", what, n)
	}
	if a.Bits() != n.BitLen() {
		t.Errorf("%s: of %X: Bits %d; want %d", what, n, a.Bits(), n.BitLen())
	}
}

// checkPair: what P3.1 and P3.2 say of two factors.
func checkPair(t *testing.T, left, right []uint32) {
	t.Helper()
	a, b := nat.Made(left), nat.Made(right)
	m, n := bigOf(left), bigOf(right)
	want := new(big.Int).Mul(m, n)
	check(t, "P3.1: Mul", times.Mul(a, b), want)
	check(t, "P3.1: All of two", times.All(a, b), want)
	check(t, "P3.2: Mul, the other way round", times.Mul(b, a), want)
	check(t, "P2.3: the first factor, after all", a, m)
	check(t, "P2.3: the second factor, after all", b, n)
}

// checkThree: what P3.1 and P3.2 say of three numbers.
func checkThree(t *testing.T, x, y, z []uint32) {
	t.Helper()
	a, b, c := nat.Made(x), nat.Made(y), nat.Made(z)
	want := new(big.Int).Mul(bigOf(x), new(big.Int).Mul(bigOf(y), bigOf(z)))
	check(t, "P3.1: All of three", times.All(a, b, c), want)
	check(t, "P3.2: All of three, turned", times.All(c, a, b), want)
	check(t, "P3.2: All of three, back to front", times.All(c, b, a), want)
	check(t, "P3.2: the first two first", times.Mul(times.Mul(a, b), c), want)
	check(t, "P3.2: the last two first", times.Mul(a, times.Mul(b, c)), want)
	sum := new(big.Int).Mul(bigOf(x), new(big.Int).Add(bigOf(y), bigOf(z)))
	check(t, "P3.2: a product of a sum", times.Mul(a, nat.Add(b, c)), sum)
	check(t, "P3.2: a sum of products", nat.Add(times.Mul(a, b), times.Mul(a, c)), sum)
}

func TestPairsOfEdges(t *testing.T) {
	for _, a := range edges {
		for _, b := range edges {
			checkPair(t, a, b)
		}
	}
}

func TestThreeEdges(t *testing.T) {
	for _, a := range edges {
		for _, b := range edges {
			for _, c := range edges {
				checkThree(t, a, b, c)
			}
		}
	}
}

func TestNoughtAndOne(t *testing.T) {
	var zero nat.Nat
	one := nat.Of(1)
	for _, limbs := range edges {
		a, n := nat.Made(limbs), bigOf(limbs)
		check(t, "P3.1: Mul by 0", times.Mul(a, zero), new(big.Int))
		check(t, "P3.1: Mul of 0", times.Mul(zero, a), new(big.Int))
		check(t, "P3.1: Mul by 1", times.Mul(a, one), n)
		check(t, "P3.1: Mul of 1", times.Mul(one, a), n)
	}
}

func TestMany(t *testing.T) {
	source := rand.New(rand.NewSource(3))
	turns := []uint32{0, 0, 1, 0x7FFFFFFF, 0x80000000, top - 1, top, top}
	pick := func() []uint32 {
		limbs := make([]uint32, source.Intn(8))
		for i := range limbs {
			limbs[i] = source.Uint32()
			if source.Intn(2) == 0 {
				limbs[i] = turns[source.Intn(len(turns))]
			}
		}
		return limbs
	}
	for range 5000 {
		checkPair(t, pick(), pick())
		checkThree(t, pick(), pick(), pick())
	}
}

func TestLongNumbers(t *testing.T) {
	for _, size := range []int{api.MaxLimbs - 1, api.MaxLimbs, api.MaxLimbs + 1, 3000} {
		all := slices.Repeat([]uint32{top}, size)
		power := make([]uint32, size+1)
		power[size] = 1
		checkPair(t, all, all)
		checkPair(t, all, power)
		checkPair(t, power, power)
		checkPair(t, all, []uint32{top})
		checkPair(t, all, nil)
	}
}

func TestFactorsComeInThroughAVariadicFunction(t *testing.T) {
	var all func(l ...nat.Nat) nat.Nat = times.All // Ways: this is refused of any other kind of function
	check(t, "P3.1: All of factors one by one", all(nat.Of(6), nat.Of(7), nat.Of(2)), big.NewInt(84))
	check(t, "P3.1: All of a list of factors", all([]nat.Nat{nat.Of(6), nat.Of(7), nat.Of(2)}...), big.NewInt(84))
}

func TestAllOfNone(t *testing.T) {
	check(t, "P3.1: All of none", times.All(), big.NewInt(1))
	check(t, "P3.1: All of a list that is nil", times.All([]nat.Nat(nil)...), big.NewInt(1))
	check(t, "P3.1: All of an empty list", times.All([]nat.Nat{}...), big.NewInt(1))
}

func TestAllOfOne(t *testing.T) {
	for _, limbs := range edges {
		check(t, "P3.1: All of one", times.All(nat.Made(limbs)), bigOf(limbs))
	}
}

func TestAllOfMany(t *testing.T) {
	var list []nat.Nat
	want := big.NewInt(1)
	for i := 1; i <= 300; i++ {
		list = append(list, nat.Of(uint64(i)))
		want.Mul(want, big.NewInt(int64(i)))
		check(t, "P3.1: All of the first numbers", times.All(list...), want)
	}
	for place := range list {
		noughted := slices.Clone(list)
		noughted[place] = nat.Of(0)
		check(t, "P3.1: All with a 0 among them", times.All(noughted...), new(big.Int))
	}
}

func TestAllReadsItsListAlone(t *testing.T) {
	memory := []nat.Nat{nat.Of(2), nat.Of(3), nat.Of(5), nat.Of(7), nat.Of(11)}
	check(t, "P3.1: All of a piece of a list", times.All(memory[1:3]...), big.NewInt(15))
	for i, want := range []int64{2, 3, 5, 7, 11} {
		check(t, "P3.1: the list, after All", memory[i], big.NewInt(want))
	}
}

func TestPow(t *testing.T) {
	for _, limbs := range edges {
		a, n := nat.Made(limbs), bigOf(limbs)
		want := big.NewInt(1)
		for k := range 70 {
			check(t, "P3.1: Pow", times.Pow(a, k), want)
			want.Mul(want, n)
		}
		check(t, "P2.3: what was raised, after all", a, n)
	}
}

func TestPowOfGreatExponents(t *testing.T) {
	for _, k := range []int{255, 256, 257, 1023, 1024, 1025, 5000, 32767, 32768, 32769} {
		for _, n := range []int64{2, 3, 10} {
			want := new(big.Int).Exp(big.NewInt(n), big.NewInt(int64(k)), nil)
			check(t, "P3.1: Pow", times.Pow(nat.Of(uint64(n)), k), want)
		}
	}
}

func TestPowBelowOne(t *testing.T) {
	for _, limbs := range edges {
		for _, k := range []int{0, -1, -2, -3, -64, math.MinInt32, math.MinInt + 1, math.MinInt} {
			check(t, "P3.1: Pow of an exponent below 1", times.Pow(nat.Made(limbs), k), big.NewInt(1))
		}
	}
}

func TestPowOfNoughtAndOne(t *testing.T) {
	for _, k := range []int{1, 2, 3, 1 << 20, math.MaxInt32, math.MaxInt - 1, math.MaxInt} {
		check(t, "P3.1: Pow of 0", times.Pow(nat.Of(0), k), new(big.Int))
		check(t, "P3.1: Pow of 1", times.Pow(nat.Of(1), k), big.NewInt(1))
	}
}

func TestPowersGoTogether(t *testing.T) {
	for _, limbs := range edges {
		a := nat.Made(limbs)
		for j := range 9 {
			for k := range 9 {
				if nat.Cmp(times.Mul(times.Pow(a, j), times.Pow(a, k)), times.Pow(a, j+k)) != 0 {
					t.Errorf("P3.2: %X to %d times %X to %d isn't %X to %d", limbs, j, limbs, k, limbs, j+k)
				}
			}
		}
	}
}

func TestExample(t *testing.T) {
	want, _ := new(big.Int).SetString("100000000000000000000", 10)
	check(t, "P3.1: Pow of 10 and 20", times.Pow(nat.Of(10), 20), want)
}

func FuzzProducts(f *testing.F) {
	limbsIn := func(b []byte) []uint32 {
		var limbs []uint32
		for ; len(b) >= 4; b = b[4:] {
			limbs = append(limbs, binary.LittleEndian.Uint32(b))
		}
		return limbs
	}
	for i := range edges {
		var texts [3][]byte
		for j := range texts {
			for _, limb := range edges[(i+7*j)%len(edges)] {
				texts[j] = binary.LittleEndian.AppendUint32(texts[j], limb)
			}
		}
		f.Add(texts[0], texts[1], texts[2])
	}
	f.Fuzz(func(t *testing.T, x, y, z []byte) {
		checkPair(t, limbsIn(x), limbsIn(y))
		checkThree(t, limbsIn(x), limbsIn(y), limbsIn(z))
	})
}
