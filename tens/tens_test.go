package tens_test

import (
	"encoding/binary"
	"math"
	"math/big"
	"math/rand"
	"slices"
	"strings"
	"testing"

	"numerary/api"
	"numerary/nat"
	"numerary/tens"
	"numerary/times"
)

const top = 0xFFFFFFFF

// edges: limbs at which a shift's carries, its size or what it loses turn; none of them ends in a nought.
var edges = [][]uint32{
	nil,
	{1}, {2}, {3}, {5}, {10}, {96}, {0x10000}, {0x7FFFFFFF}, {0x80000000}, {0x80000001}, {top - 1}, {top},
	{0, 1}, {1, 1}, {top, 1}, {0x80000000, 1}, {0, 0x80000000}, {1, 0x80000000}, {top, 0x7FFFFFFF}, {0, top}, {top, top},
	{0, 0, 1}, {0, 0, 2}, {0, 0, 6}, {1, 0, 6}, {0, 1, 1}, {0, 0x80000000, 1}, {0, 0, 0x80000000}, {0, top, top}, {top, 0, top}, {top, top, top},
	{0, 0, 0, 1}, {5, 0, 0, 7}, {0, 0, 4, 0, 1}, {top, top, top, top, top},
}

// counts: how far to shift: around each end of a limb, and past all of edges.
var counts = []int{0, 1, 2, 5, 30, 31, 32, 33, 34, 47, 62, 63, 64, 65, 66, 95, 96, 97, 127, 128, 129, 159, 160, 161, 200, 1000}

// below: counts that are below 0.
var below = []int{-1, -2, -4, -31, -32, -33, -64, math.MinInt32, math.MinInt + 1, math.MinInt}

// bigOf is the number of limbs, put together by the library.
func bigOf(limbs []uint32) *big.Int {
	var b []byte
	for _, limb := range slices.Backward(limbs) {
		b = binary.BigEndian.AppendUint32(b, limb)
	}
	return new(big.Int).SetBytes(b)
}

// check: a is to be n, with no nought as its last limb.
func check(t *testing.T, what string, a nat.Nat, n *big.Int) {
	t.Helper()
	limbs := a.Limbs()
	if bigOf(limbs).Cmp(n) != 0 {
		t.Errorf("%s: %X; want %X", what, bigOf(limbs), n)
	}
	if len(limbs) > 0 && limbs[len(limbs)-1] == 0 {
		t.Errorf("%s: of %X: the last limb is 0", what, n)
	}
	if a.Bits() != n.BitLen() {
		t.Errorf("%s: of %X: Bits %d; want %d", what, n, a.Bits(), n.BitLen())
	}
}

// checkDown: what P5.1 says of Down, at a count from 0 on.
func checkDown(t *testing.T, a nat.Nat, k int) {
	t.Helper()
	n := bigOf(a.Limbs())
	power := new(big.Int).Lsh(big.NewInt(1), uint(k))
	whole, rest := new(big.Int).QuoRem(n, power, new(big.Int))
	got, lost := tens.Down(a, k)
	check(t, "P5.1: Down", got, whole)
	if lost != (rest.Sign() != 0) {
		t.Errorf("P5.1: Down of %X and %d: lost is %v", n, k, lost)
	}
}

// checkShift: what P5.1 and P5.2 say of a number and a count from 0 on.
func checkShift(t *testing.T, limbs []uint32, k int) {
	t.Helper()
	a, n := nat.Made(limbs), bigOf(limbs)
	power := new(big.Int).Exp(big.NewInt(2), big.NewInt(int64(k)), nil)
	up := tens.Up(a, k)
	check(t, "P5.1: Up", up, power.Mul(power, n))
	back, lost := tens.Down(up, k)
	check(t, "P5.2: Down of Up", back, n)
	if lost {
		t.Errorf("P5.2: Down of Up of %X and %d: something is lost", n, k)
	}
	checkDown(t, a, k)
	checkDown(t, up, k+1)
	checkDown(t, nat.Add(up, nat.Of(1)), k)
	check(t, "P2.3: the number, after all", a, n)
}

// checkNoughts: what P5.1 says of Noughts.
func checkNoughts(t *testing.T, limbs []uint32) {
	t.Helper()
	a := nat.Made(limbs)
	want := int(bigOf(limbs).TrailingZeroBits())
	if got := tens.Noughts(a); got != want {
		t.Errorf("P5.1: Noughts of %X: %d; want %d", limbs, got, want)
	}
}

func TestTen(t *testing.T) {
	for k := range 400 {
		want, _ := new(big.Int).SetString("1"+strings.Repeat("0", k), 10)
		check(t, "P5.1: Ten", tens.Ten(k), want)
	}
}

func TestTenOfGreatExponents(t *testing.T) {
	for _, k := range []int{1023, 1024, 1075, 9864, 9865, 20000, 32768} {
		want := new(big.Int).Exp(big.NewInt(10), big.NewInt(int64(k)), nil)
		check(t, "P5.1: Ten", tens.Ten(k), want)
	}
}

func TestTenBelowOne(t *testing.T) {
	for _, k := range append([]int{0}, below...) {
		check(t, "P5.1: Ten of an exponent below 1", tens.Ten(k), big.NewInt(1))
	}
}

func TestTenHasItsNoughts(t *testing.T) {
	for k := range 400 {
		if got := tens.Noughts(tens.Ten(k)); got != k {
			t.Errorf("P5.1: Noughts of 10 to %d: %d", k, got)
		}
		five, lost := tens.Down(tens.Ten(k), k)
		if lost || nat.Cmp(five, times.Pow(nat.Of(5), k)) != 0 {
			t.Errorf("P5.1: 10 to %d divided by 2 to %d: %X, %v", k, k, five.Limbs(), lost)
		}
	}
}

func TestShiftsOfEdges(t *testing.T) {
	for _, limbs := range edges {
		for _, k := range counts {
			checkShift(t, limbs, k)
		}
	}
}

func TestEachCount(t *testing.T) {
	for k := range 300 {
		checkShift(t, []uint32{1}, k)
		checkShift(t, []uint32{top, 0, 0x80000001}, k)
	}
}

func TestShiftsBelowNought(t *testing.T) {
	for _, limbs := range edges {
		a, n := nat.Made(limbs), bigOf(limbs)
		for _, k := range append([]int{0}, below...) {
			check(t, "P5.1: Up of a count below 1", tens.Up(a, k), n)
			got, lost := tens.Down(a, k)
			check(t, "P5.1: Down of a count below 1", got, n)
			if lost {
				t.Errorf("P5.1: Down of %X and %d: something is lost", n, k)
			}
		}
	}
}

func TestUpOfNought(t *testing.T) {
	for _, nought := range []nat.Nat{{}, nat.Of(0), nat.Made(make([]uint32, 5))} {
		for _, k := range []int{1, 31, 32, 33, 99, 1 << 40, math.MaxInt - 1, math.MaxInt} {
			check(t, "P5.1: Up of 0", tens.Up(nought, k), new(big.Int))
			got, lost := tens.Down(nought, k)
			check(t, "P5.1: Down of 0", got, new(big.Int))
			if lost {
				t.Errorf("P5.1: Down of 0 and %d: something is lost", k)
			}
		}
	}
}

func TestDownToNought(t *testing.T) {
	for _, limbs := range edges[1:] {
		a := nat.Made(limbs)
		last, lost := tens.Down(a, a.Bits()-1)
		check(t, "P5.1: Down to the last bit", last, big.NewInt(1))
		if lost != (tens.Noughts(a) < a.Bits()-1) {
			t.Errorf("P5.1: Down of %X to its last bit: lost is %v", limbs, lost)
		}
		for _, k := range []int{a.Bits(), a.Bits() + 1, a.Bits() + 32, 1 << 31, 1 << 32, 1 << 40, math.MaxInt - 1, math.MaxInt} {
			got, lost := tens.Down(a, k)
			check(t, "P5.1: Down past the last bit", got, new(big.Int))
			if !lost {
				t.Errorf("P5.1: Down of %X and %d: nothing is lost", limbs, k)
			}
		}
	}
}

func TestDownLosesEachBit(t *testing.T) {
	for bit := range 130 {
		a := tens.Up(nat.Of(1), bit)
		for k := range 135 {
			_, lost := tens.Down(nat.Add(a, tens.Up(nat.Of(1), 140)), k)
			if lost != (bit < k) {
				t.Errorf("P5.1: Down by %d of a number with the bit %d: lost is %v", k, bit, lost)
			}
		}
	}
}

func TestNoughts(t *testing.T) {
	for _, limbs := range edges {
		checkNoughts(t, limbs)
	}
	for k := range 300 {
		for _, n := range []uint64{1, 3, 1<<64 - 1, 1<<63 + 1} {
			if got := tens.Noughts(tens.Up(nat.Of(n), k)); got != k {
				t.Errorf("P5.1: Noughts of %X times 2 to %d: %d", n, k, got)
			}
		}
	}
	for _, nought := range []nat.Nat{{}, nat.Of(0), nat.Made(make([]uint32, 5))} {
		if got := tens.Noughts(nought); got != 0 {
			t.Errorf("P5.1: Noughts of 0: %d", got)
		}
	}
}

func TestMany(t *testing.T) {
	source := rand.New(rand.NewSource(5))
	turns := []uint32{0, 0, 0, 1, 0x7FFFFFFF, 0x80000000, top - 1, top}
	for range 20000 {
		limbs := make([]uint32, source.Intn(9))
		for i := range limbs {
			limbs[i] = source.Uint32() << source.Intn(32)
			if source.Intn(2) == 0 {
				limbs[i] = turns[source.Intn(len(turns))]
			}
		}
		checkShift(t, limbs, source.Intn(300))
		checkNoughts(t, limbs)
	}
}

func TestLongNumbers(t *testing.T) {
	for _, size := range []int{api.MaxLimbs - 1, api.MaxLimbs, api.MaxLimbs + 1, 3000} {
		power := make([]uint32, size+1)
		power[size] = 1
		for _, limbs := range [][]uint32{slices.Repeat([]uint32{top}, size), power} {
			checkNoughts(t, limbs)
			for _, k := range []int{1, 31, 32, 33, 32*size - 1, 32 * size, 32*size + 1, 100000} {
				checkShift(t, limbs, k)
			}
		}
	}
}

func TestFarShifts(t *testing.T) {
	for _, k := range []int{1 << 20, 1<<24 - 1, 1 << 24, 1<<24 + 1} {
		checkShift(t, []uint32{3}, k)
	}
}

func TestShiftsAddUp(t *testing.T) {
	for _, limbs := range edges {
		a := nat.Made(limbs)
		for _, j := range []int{0, 1, 31, 32, 33} {
			for _, k := range []int{0, 1, 31, 32, 33} {
				if nat.Cmp(tens.Up(tens.Up(a, j), k), tens.Up(a, j+k)) != 0 {
					t.Errorf("P5.1: Up of %X by %d and then by %d isn't Up by both", limbs, j, k)
				}
				first, lostFirst := tens.Down(a, j)
				then, lostThen := tens.Down(first, k)
				both, lost := tens.Down(a, j+k)
				if nat.Cmp(then, both) != 0 || lost != (lostFirst || lostThen) {
					t.Errorf("P5.1: Down of %X by %d and then by %d isn't Down by both", limbs, j, k)
				}
			}
		}
	}
}

func TestExample(t *testing.T) {
	got, lost := tens.Down(nat.Of(5), 1)
	check(t, "P5.1: Down of 5 and 1", got, big.NewInt(2))
	if !lost {
		t.Errorf("P5.1: Down of 5 and 1: nothing is lost")
	}
}

func FuzzShifts(f *testing.F) {
	for i, limbs := range edges {
		var b []byte
		for _, limb := range limbs {
			b = binary.LittleEndian.AppendUint32(b, limb)
		}
		f.Add(b, uint16(counts[i%len(counts)]))
	}
	f.Fuzz(func(t *testing.T, b []byte, k uint16) {
		var limbs []uint32
		for ; len(b) >= 4; b = b[4:] {
			limbs = append(limbs, binary.LittleEndian.Uint32(b))
		}
		checkShift(t, limbs, int(k))
		checkNoughts(t, limbs)
	})
}
