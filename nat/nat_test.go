package nat_test

import (
	"encoding/binary"
	"math/big"
	"math/rand"
	"slices"
	"testing"

	"numerary/api"
	"numerary/nat"
)

const top = 0xFFFFFFFF

// edges: limbs at which a carry, a borrow, a size or an order turns; none of them ends in a nought.
var edges = [][]uint32{
	nil,
	{1}, {2}, {3}, {0x7FFFFFFF}, {0x80000000}, {0x80000001}, {top - 1}, {top},
	{0, 1}, {1, 1}, {top, 1}, {0, 2}, {0, 0x80000000}, {top, 0x7FFFFFFF}, {0, top}, {1, top}, {top - 1, top}, {top, top},
	{0, 0, 1}, {1, 0, 1}, {0, 1, 1}, {top, 0, 1}, {0, top, 1}, {0, 0, 0x80000000}, {0, 0, top}, {top, top, top},
	{0, 0, 0, 1}, {5, 0, 0, 7}, {top, 0, 0, top}, {top, top, top, top, top},
}

// bigOf is the number of limbs, put together by the library.
func bigOf(limbs []uint32) *big.Int {
	n := new(big.Int)
	for _, limb := range slices.Backward(limbs) {
		n.Lsh(n, 32)
		n.Or(n, new(big.Int).SetUint64(uint64(limb)))
	}
	return n
}

// limbsOf is bigOf turned back.
func limbsOf(n *big.Int) []uint32 {
	var limbs []uint32
	mask := new(big.Int).SetUint64(top)
	for n = new(big.Int).Set(n); n.Sign() > 0; n.Rsh(n, 32) {
		limbs = append(limbs, uint32(new(big.Int).And(n, mask).Uint64()))
	}
	return limbs
}

// checkNat: all that P2.1 says of a Nat that is to be n.
func checkNat(t *testing.T, what string, a nat.Nat, n *big.Int) {
	t.Helper()
	if got := a.Limbs(); !slices.Equal(got, limbsOf(n)) {
		t.Errorf("%s: limbs %X; want %X", what, got, limbsOf(n))
	}
	if got := a.Bits(); got != n.BitLen() {
		t.Errorf("%s: of %X: Bits %d; want %d", what, n, got, n.BitLen())
	}
	want, fits := uint64(0), n.IsUint64()
	if fits {
		want = n.Uint64()
	}
	if got, ok := a.Small(); got != want || ok != fits {
		t.Errorf("%s: of %X: Small %X, %v; want %X, %v", what, n, got, ok, want, fits)
	}
}

// checkPair: what P2.2 and P2.3 say of two numbers.
func checkPair(t *testing.T, left, right []uint32) {
	t.Helper()
	a, b := nat.Made(left), nat.Made(right)
	m, n := bigOf(left), bigOf(right)
	if got := nat.Cmp(a, b); got != m.Cmp(n) {
		t.Errorf("P2.2: Cmp(%X, %X) = %d; want %d", m, n, got, m.Cmp(n))
	}
	sum := nat.Add(a, b)
	checkNat(t, "P2.2: Add", sum, new(big.Int).Add(m, n))
	if back, ok := nat.Sub(sum, b); !ok || nat.Cmp(back, a) != 0 {
		t.Errorf("P2.3: Sub does not turn Add of %X and %X back: %X, %v", m, n, back.Limbs(), ok)
	}
	if nat.Cmp(sum, nat.Add(b, a)) != 0 {
		t.Errorf("P2.3: the sum of %X and %X hangs on their order", m, n)
	}
	rest, ok := nat.Sub(a, b)
	if m.Cmp(n) < 0 {
		if ok {
			t.Errorf("P2.2: Sub(%X, %X) says true", m, n)
		}
		checkNat(t, "P2.2: Sub of a lesser one", rest, new(big.Int))
	} else {
		if !ok {
			t.Errorf("P2.2: Sub(%X, %X) says false", m, n)
		}
		checkNat(t, "P2.2: Sub", rest, new(big.Int).Sub(m, n))
		if nat.Cmp(nat.Add(rest, b), a) != 0 {
			t.Errorf("P2.3: Add does not turn Sub of %X and %X back", m, n)
		}
	}
	checkNat(t, "P2.3: the first number, after all", a, m)
	checkNat(t, "P2.3: the second number, after all", b, n)
}

func TestOf(t *testing.T) {
	for shift := range 64 {
		for _, n := range []uint64{1<<shift - 1, 1 << shift, 1<<shift + 1} {
			checkNat(t, "P2.1: Of", nat.Of(n), new(big.Int).SetUint64(n))
		}
	}
	checkNat(t, "P2.1: Of", nat.Of(1<<64-1), new(big.Int).SetUint64(1<<64-1))
}

func TestZeroNat(t *testing.T) {
	var zero nat.Nat
	for what, a := range map[string]nat.Nat{
		"the zero Nat": zero, "Of(0)": nat.Of(0), "Made(nil)": nat.Made(nil), "Made of none": nat.Made([]uint32{}), "Made of noughts": nat.Made(make([]uint32, 7)),
		"the sum of noughts": nat.Add(zero, nat.Made(nil)),
	} {
		checkNat(t, "P2.1: "+what, a, new(big.Int))
		if nat.Cmp(a, zero) != 0 || nat.Cmp(zero, a) != 0 {
			t.Errorf("P2.2: %s is not the zero Nat", what)
		}
		if rest, ok := nat.Sub(a, zero); !ok || len(rest.Limbs()) != 0 {
			t.Errorf("P2.2: %s less 0 = %X, %v", what, rest.Limbs(), ok)
		}
	}
}

func TestMadeWithNoughtsAtTheEnd(t *testing.T) {
	for _, limbs := range edges {
		for more := range 4 {
			checkNat(t, "P2.1: Made", nat.Made(append(slices.Clone(limbs), make([]uint32, more)...)), bigOf(limbs))
		}
	}
}

func TestBitsAtEachPower(t *testing.T) {
	one := big.NewInt(1)
	for shift := uint(0); shift < 200; shift++ {
		power := new(big.Int).Lsh(one, shift)
		checkNat(t, "P2.1: a power of two", nat.Made(limbsOf(power)), power)
		below := new(big.Int).Sub(power, one)
		checkNat(t, "P2.1: one less", nat.Made(limbsOf(below)), below)
	}
}

func TestSmallAtItsEdge(t *testing.T) {
	if n, ok := nat.Made([]uint32{top, top}).Small(); n != 1<<64-1 || !ok {
		t.Errorf("P2.1: Small of 2^64 - 1: %X, %v", n, ok)
	}
	for _, limbs := range [][]uint32{{0, 0, 1}, {7, 7, 7}, {7, 7, 0, 1}} {
		if n, ok := nat.Made(limbs).Small(); n != 0 || ok {
			t.Errorf("P2.1: Small of %X: %X, %v", limbs, n, ok)
		}
	}
}

func TestExample(t *testing.T) {
	rest, ok := nat.Sub(nat.Of(1<<32), nat.Of(1))
	if !ok || !slices.Equal(rest.Limbs(), []uint32{4294967295}) {
		t.Errorf("P2.2: 2^32 less 1: %d, %v", rest.Limbs(), ok)
	}
}

func TestPairsOfEdges(t *testing.T) {
	for _, a := range edges {
		for _, b := range edges {
			checkPair(t, a, b)
		}
	}
}

func TestSumsOfThree(t *testing.T) {
	for _, x := range edges {
		for _, y := range edges {
			for _, z := range edges {
				a, b, c := nat.Made(x), nat.Made(y), nat.Made(z)
				if nat.Cmp(nat.Add(nat.Add(a, b), c), nat.Add(a, nat.Add(b, c))) != 0 {
					t.Errorf("P2.3: the sum of %X, %X, %X hangs on their order", x, y, z)
				}
			}
		}
	}
}

func TestManyPairs(t *testing.T) {
	source := rand.New(rand.NewSource(2))
	turns := []uint32{0, 0, 1, 0x7FFFFFFF, 0x80000000, top - 1, top, top}
	pick := func() []uint32 {
		limbs := make([]uint32, source.Intn(8))
		for i := range limbs {
			limbs[i] = source.Uint32()
			if source.Intn(2) == 0 {
				limbs[i] = turns[source.Intn(len(turns))]
			}
		}
		return limbs
	}
	for range 20000 {
		a := pick()
		checkPair(t, a, pick())
		// One that differs in one limb alone, so that orders hang on each place.
		b := slices.Clone(a)
		if len(b) > 0 {
			b[source.Intn(len(b))] = source.Uint32()
		}
		checkPair(t, a, b)
	}
}

func TestLongNumbers(t *testing.T) {
	for _, size := range []int{api.MaxLimbs - 1, api.MaxLimbs, api.MaxLimbs + 1, 5000} {
		all := slices.Repeat([]uint32{top}, size)
		power := make([]uint32, size+1)
		power[size] = 1
		checkPair(t, all, []uint32{1})
		checkPair(t, all, all)
		checkPair(t, power, []uint32{1})
		checkPair(t, power, all)
		checkPair(t, all, power)
		checkPair(t, []uint32{1}, power)
	}
}

func TestMadeKeepsNothing(t *testing.T) {
	memory := []uint32{1, 2, 3, 4, 5}
	limbs := memory[1:3]
	a := nat.Made(limbs)
	if !slices.Equal(memory, []uint32{1, 2, 3, 4, 5}) {
		t.Errorf("P2.1: Made has written into what it was given: %X", memory)
	}
	limbs[0], limbs[1] = 9, 0
	checkNat(t, "P2.1: Made of a list that is written later", a, bigOf([]uint32{2, 3}))
}

func TestLimbsAnswersNewMemory(t *testing.T) {
	a := nat.Made([]uint32{1, 2, 3})
	sum := nat.Add(a, nat.Nat{})
	rest, _ := nat.Sub(a, nat.Nat{})
	for _, one := range []nat.Nat{a, sum, rest} {
		first, second := one.Limbs(), one.Limbs()
		first[0], first[2] = 8, 0
		_ = append(first[:1], 7, 7, 7)
		if !slices.Equal(second, []uint32{1, 2, 3}) {
			t.Errorf("P2.3: two answers of Limbs share memory: %X", second)
		}
		for _, other := range []nat.Nat{a, sum, rest} {
			checkNat(t, "P2.3: after its limbs were written", other, bigOf([]uint32{1, 2, 3}))
		}
	}
}

func FuzzPair(f *testing.F) {
	bytesOf := func(limbs []uint32) []byte {
		var b []byte
		for _, limb := range limbs {
			b = binary.LittleEndian.AppendUint32(b, limb)
		}
		return b
	}
	for i, limbs := range edges {
		f.Add(bytesOf(limbs), bytesOf(edges[len(edges)-1-i]))
	}
	limbsIn := func(b []byte) []uint32 {
		var limbs []uint32
		for ; len(b) >= 4; b = b[4:] {
			limbs = append(limbs, binary.LittleEndian.Uint32(b))
		}
		return limbs
	}
	f.Fuzz(func(t *testing.T, left, right []byte) {
		checkPair(t, limbsIn(left), limbsIn(right))
	})
}
