package poly

import (
	"math/big"
	"testing"
)

// targets is numbers that a may be in the end, at the edges.
func targets() []*big.Int {
	p := modulus()
	var out []*big.Int
	for d := range int64(8) {
		out = append(out, big.NewInt(d), plus(p, -1-d))
	}
	// About the ends of limbs, of words, and of the tag.
	for _, n := range []uint{26, 44, 52, 64, 78, 88, 104, 127, 128, 129} {
		for d := int64(-6); d <= 6; d++ {
			out = append(out, plus(power(n), d), new(big.Int).Sub(p, plus(power(n), d)))
		}
	}
	return append(out, plus(new(big.Int).Mul(big.NewInt(3), power(128)), -1), new(big.Int).Mul(big.NewInt(3), power(128)))
}

// Whatever r is, and at whatever edge a comes to lie: the tag is the lowest
// 128 bits of it and s.
func TestAAtItsEdges(t *testing.T) {
	for i, r := range edgeRs() {
		for j, target := range targets() {
			text := textComingTo(t, r, target, int64(1000*i+j))
			for _, s := range edgeSs() {
				holdTag(t, keyOf(r, s), text, half(new(big.Int).Add(target, s)))
			}
		}
	}
}

// a + s at and about 2^128, 2^129, ..: what lies from 2^128 on is dropped, and
// nothing of it comes in at the bottom.
func TestSumWithSPassesTheEnd(t *testing.T) {
	for i, r := range edgeRs() {
		for j, target := range targets() {
			text := textComingTo(t, r, target, int64(1000*i+j))
			for d := int64(-2); d <= 2; d++ {
				// The s that makes d with a, modulo 2^128.
				s := half(new(big.Int).Sub(big.NewInt(d), target))
				holdTag(t, keyOf(r, number(s[:])), text, half(big.NewInt(d)))
			}
		}
	}
}

// blocksOf is a text of whole blocks whose numbers, the byte 1 behind each of
// them included, sum up to n: nothing, if there are none.
func blocksOf(n *big.Int, count int) []byte {
	rest := new(big.Int).Sub(n, new(big.Int).Mul(big.NewInt(int64(count)), power(128)))
	if rest.Sign() < 0 {
		return nil
	}
	var text []byte
	most := plus(power(128), -1)
	for range count {
		part := rest
		if rest.Cmp(most) > 0 {
			part = most
		}
		b := half(part)
		text = append(text, b[:]...)
		rest = new(big.Int).Sub(rest, part)
	}
	if rest.Sign() != 0 {
		return nil
	}
	return text
}

// With an r of 1: sums of blocks at and about each multiple of 2^130 - 5, and
// of 2^130 (2^130 - 6, 2^130 - 5, 2^130 - 4 among them).
func TestSumsAboutTheModulus(t *testing.T) {
	held := 0
	for times := range int64(6) {
		for count := 1; count < 25; count++ {
			for d := int64(-40); d <= 40; d++ {
				sum := new(big.Int).Mul(big.NewInt(times), modulus())
				sum.Add(sum, big.NewInt(d))
				text := blocksOf(sum, count)
				if text == nil {
					continue
				}
				held++
				a := new(big.Int).Mod(big.NewInt(d), modulus())
				for _, s := range edgeSs() {
					holdTag(t, keyOf(big.NewInt(1), s), text, half(new(big.Int).Add(a, s)))
				}
			}
		}
	}
	if held < 1000 {
		t.Errorf("only %d sums were tried", held)
	}
}

// factors is numbers of r by which one block's product comes to lie at and
// about every multiple of 2^130 - 5 that it can reach.
func factors() []int64 {
	var out []int64
	for r := int64(1); r <= 40; r++ {
		out = append(out, r)
	}
	return append(out, 1<<16-1, 1<<16, 1<<16+1, 1<<20+7, 1<<25-1, 1<<26-5, 1<<26-1, 1<<26, 1<<26+1, 1<<27+3, 1<<28-1)
}

// multiples is some of the multiples of 2^130 - 5 that r makes of one block.
func multiples(r int64) []int64 {
	if r <= 40 {
		var out []int64
		for k := r / 4; k <= r/2+1; k++ {
			out = append(out, k)
		}
		return out
	}
	return []int64{r/4 + 1, r/4 + 2, r / 3, r/3 + 1, r/2 - 1}
}

// Products of one block and r that are k times 2^130 - 5 and little more or
// less: below 5k more, their lowest 130 bits are nearly all 1, and what is
// carried comes in at the bottom twice.
func TestProductsAboutTheModulus(t *testing.T) {
	held := 0
	for _, r := range factors() {
		for _, k := range multiples(r) {
			product := new(big.Int).Mul(big.NewInt(k), modulus())
			least := new(big.Int).Mod(new(big.Int).Neg(product), big.NewInt(r)).Int64()
			for turn := int64(-8); turn <= 8; turn++ {
				more := least + turn*r
				n := plus(product, more)
				n.Div(n, big.NewInt(r))
				text := blocksOf(n, 1)
				if text == nil {
					continue
				}
				held++
				holdProduct(t, r, more, text)
			}
		}
	}
	if held < 1000 {
		t.Errorf("only %d products were tried", held)
	}
}

// Products that are a multiple of 2^130 - 5, and some 2^26 or 2^27 more: once
// what was carried has come in again at the bottom, the lowest limb is full,
// and passes its end once more.
func TestProductsThatFillTheLowestLimb(t *testing.T) {
	held := 0
	for r := int64(1<<26 - 1); r > 1<<26-100; r-- {
		for d := int64(-8); d <= 8; d++ {
			for _, more := range []int64{1<<26 + d, 1<<27 + d} {
				text := blocksOf(multiplierAbout(r, more), 1)
				if text == nil {
					continue
				}
				held++
				holdProduct(t, r, more, text)
			}
		}
	}
	if held < 100 {
		t.Errorf("only %d products were tried", held)
	}
}

// multiplierAbout is the number that with r makes more than a multiple of
// 2^130 - 5, by just so much.
func multiplierAbout(r, more int64) *big.Int {
	k := new(big.Int).ModInverse(modulus(), big.NewInt(r))
	k.Mul(k, big.NewInt(-more)).Mod(k, big.NewInt(r))
	n := k.Mul(k, modulus())
	return n.Add(n, big.NewInt(more)).Div(n, big.NewInt(r))
}

// holdProduct holds the tags of a text that comes to a multiple of 2^130 - 5
// and more.
func holdProduct(t *testing.T, r, more int64, text []byte) {
	t.Helper()
	a := new(big.Int).Mod(big.NewInt(more), modulus())
	for _, s := range edgeSs() {
		holdTag(t, keyOf(big.NewInt(r), s), text, half(new(big.Int).Add(a, s)))
	}
	// What lies behind such a block stands on it.
	key := keyOf(big.NewInt(r), new(big.Int))
	holdPlain(t, key, append(text, ones(16)...))
	holdPlain(t, key, append(text, 0))
}
