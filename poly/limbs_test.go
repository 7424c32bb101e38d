package poly

import (
	"math/big"
	"math/rand"
	"testing"
)

// value is the number of limbs, whatever lies above their 26 bits.
func value(a limbs) *big.Int {
	n := new(big.Int)
	for i := range a {
		limb := new(big.Int).SetUint64(a[i])
		n.Add(n, limb.Lsh(limb, uint(26*i)))
	}
	return n
}

// same tells whether two numbers are one modulo 2^130 - 5.
func same(a, b *big.Int) bool {
	d := new(big.Int).Sub(a, b)
	return d.Mod(d, modulus()).Sign() == 0
}

// eachLimbs calls do with all limbs whose parts are of those lists.
func eachLimbs(lists [5][]uint64, do func(limbs)) {
	for _, n0 := range lists[0] {
		for _, n1 := range lists[1] {
			for _, n2 := range lists[2] {
				for _, n3 := range lists[3] {
					for _, n4 := range lists[4] {
						do(limbs{n0, n1, n2, n3, n4})
					}
				}
			}
		}
	}
}

func alike(l []uint64) [5][]uint64 {
	return [5][]uint64{l, l, l, l, l}
}

// single is limbs of 0 but for one.
func single(i int, n uint64) limbs {
	var a limbs
	a[i] = n
	return a
}

func TestPartedIsTheNumber(t *testing.T) {
	words := []uint64{0, 1, 1<<26 - 1, 1 << 26, 1<<40 - 1, 1 << 40, 1 << 52, 1 << 63, 1<<64 - 1}
	for i := range uint(64) {
		words = append(words, 1<<i)
	}
	for _, low := range words {
		for _, high := range words {
			for top := range uint64(4) {
				want := new(big.Int).SetUint64(top)
				want.Lsh(want, 64).Add(want, new(big.Int).SetUint64(high))
				want.Lsh(want, 64).Add(want, new(big.Int).SetUint64(low))
				got := parted(low, high, top)
				if value(got).Cmp(want) != 0 || got[0]|got[1]|got[2]|got[3]|got[4] > belowLimb {
					t.Errorf("parted(%x, %x, %x): %x", low, high, top, got)
				}
			}
		}
	}
}

// Products of the greatest limbs stay within a word; each of the twenty-five
// single ones has its place.
func TestProductOfLimbs(t *testing.T) {
	for i := range 5 {
		for j := range 5 {
			holdLimbsProduct(t, single(i, 1), single(j, 1))
			holdLimbsProduct(t, single(i, 1<<28-1), single(j, belowLimb))
		}
	}
	eachLimbs(alike([]uint64{0, 1<<28 - 1}), func(a limbs) {
		eachLimbs(alike([]uint64{1, belowLimb}), func(r limbs) { holdLimbsProduct(t, a, r) })
	})
	draw := rand.New(rand.NewSource(76))
	for range 2000 {
		var a, r limbs
		for i := range a {
			a[i], r[i] = draw.Uint64()>>36, draw.Uint64()>>38
		}
		holdLimbsProduct(t, a, r)
	}
}

func holdLimbsProduct(t *testing.T, a, r limbs) {
	t.Helper()
	got := product(a, r)
	if !same(value(got), new(big.Int).Mul(value(a), value(r))) {
		t.Errorf("product(%x, %x): %x", a, r, got)
	}
	for _, n := range got {
		if n >= 1<<59 {
			t.Errorf("product(%x, %x): %x has a limb of 2^59 or more", a, r, got)
		}
	}
}

func TestCarriedIsTheSameNumber(t *testing.T) {
	at := []uint64{0, 1, belowLimb, 1 << 26, 1<<52 - 1, 1<<59 - 1}
	eachLimbs(alike(at), func(a limbs) {
		got := carried(a)
		if !same(value(got), value(a)) {
			t.Errorf("carried(%x): %x", a, got)
		}
		if got[0]|got[2]|got[3]|got[4] > belowLimb || got[1] >= 1<<26+1<<12 {
			t.Errorf("carried(%x): %x has too great a limb", a, got)
		}
	})
}

// All that carried may answer, at its edges: those about 2^130 - 5 and 2^130
// among them, and those where the second limb's carry runs through all of the
// others.
func TestLowest128IsOfTheLeastNumber(t *testing.T) {
	at := []uint64{0, 1, 4, 5, belowLimb - 6, belowLimb - 5, belowLimb - 4, belowLimb - 3, belowLimb}
	lists := alike(at)
	lists[1] = append([]uint64{1 << 26, 1<<26 + 1, 1<<26 + 1<<12 - 1}, at...)
	eachLimbs(lists, func(a limbs) {
		low, high := lowest128(a)
		got := new(big.Int).SetUint64(high)
		got.Lsh(got, 64).Add(got, new(big.Int).SetUint64(low))
		n := value(a)
		want := n.Mod(n, modulus()).Mod(n, power(128))
		if got.Cmp(want) != 0 {
			t.Errorf("lowest128(%x): %x, not %x", a, got, want)
		}
	})
}
