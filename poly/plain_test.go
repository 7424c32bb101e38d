package poly

import (
	"bytes"
	"math/big"
	"math/rand"
	"slices"
	"testing"
)

// Here Poly1305 is reckoned once more, with whole numbers of any size. All
// tests that need to know an answer may hold it against that.

// power is 2^n.
func power(n uint) *big.Int {
	return new(big.Int).Lsh(big.NewInt(1), n)
}

// plus is n + more.
func plus(n *big.Int, more int64) *big.Int {
	return new(big.Int).Add(n, big.NewInt(more))
}

// modulus is 2^130 - 5.
func modulus() *big.Int {
	return plus(power(130), -5)
}

// keptBits is the chapter's number of the bits of r that are kept.
func keptBits() *big.Int {
	n, _ := new(big.Int).SetString("0ffffffc0ffffffc0ffffffc0fffffff", 16)
	return n
}

// number is that of b, the lowest byte first.
func number(b []byte) *big.Int {
	b = bytes.Clone(b)
	slices.Reverse(b)
	return new(big.Int).SetBytes(b)
}

// half is the lowest 128 bits of n as bytes.
func half(n *big.Int) [16]byte {
	b := new(big.Int).Mod(n, power(128)).FillBytes(make([]byte, 16))
	slices.Reverse(b)
	return [16]byte(b)
}

// keyOf is the key with those 16 bytes of r and of s.
func keyOf(r, s *big.Int) [32]byte {
	first, second := half(r), half(s)
	return [32]byte(append(first[:], second[:]...))
}

// plainSum is the chapter's a behind the whole text, for an r that has lost
// its bits.
func plainSum(r *big.Int, text []byte) *big.Int {
	a := new(big.Int)
	for block := range slices.Chunk(text, 16) {
		a.Add(a, number(append(bytes.Clone(block), 1)))
		a.Mul(a, r)
		a.Mod(a, modulus())
	}
	return a
}

func plainTag(key [32]byte, text []byte) [16]byte {
	r := number(key[:16])
	a := plainSum(r.And(r, keptBits()), text)
	return half(a.Add(a, number(key[16:])))
}

// drawnText is n bytes, the same for the same seed.
func drawnText(n int, seed int64) []byte {
	b := make([]byte, n)
	rand.New(rand.NewSource(seed)).Read(b)
	return b
}

// drawnKeys is n keys, the same for the same seed.
func drawnKeys(n int, seed int64) [][32]byte {
	b := drawnText(32*n, seed)
	out := make([][32]byte, n)
	for i := range out {
		out[i] = [32]byte(b[32*i:])
	}
	return out
}

// ones is n bytes of all 1.
func ones(n int) []byte {
	return bytes.Repeat([]byte{0xff}, n)
}

// rising is the key 00 01 02 .. 1f.
func rising() [32]byte {
	var key [32]byte
	for i := range key {
		key[i] = byte(i)
	}
	return key
}

// edgeRs is numbers of r, all of their bits kept, at the edges.
func edgeRs() []*big.Int {
	out := []*big.Int{
		big.NewInt(1), big.NewInt(2), big.NewInt(3), big.NewInt(5),
		big.NewInt(1<<26 - 1), big.NewInt(1 << 26), big.NewInt(1<<28 - 1),
		power(34), power(59), power(66), power(91), power(98), power(123), keptBits(),
	}
	for _, key := range drawnKeys(6, 60) {
		r := number(key[:16])
		out = append(out, r.And(r, keptBits()))
	}
	return out
}

// edgeSs is numbers of s at the edges.
func edgeSs() []*big.Int {
	return []*big.Int{
		new(big.Int), big.NewInt(1), plus(power(64), -1), power(64), plus(power(128), -2), plus(power(128), -1),
		power(127), number(drawnText(16, 61)),
	}
}

// textComingTo is a text of two to six whole blocks behind which a is the
// target. What is ahead of the last block is drawn until that block's number
// is one that a block can have.
func textComingTo(t *testing.T, r, target *big.Int, seed int64) []byte {
	t.Helper()
	p := modulus()
	want := new(big.Int).Mul(target, new(big.Int).ModInverse(r, p))
	for i := range int64(1000) {
		text := drawnText(16*int(1+(seed+i)%5), 1000*seed+i)
		n := new(big.Int).Sub(want, plainSum(r, text))
		n.Mod(n, p)
		if n.Cmp(power(128)) >= 0 && n.Cmp(power(129)) < 0 {
			last := half(n)
			return append(text, last[:]...)
		}
	}
	t.Fatalf("no text comes to %x with r = %x", target, r)
	return nil
}

// holdTag holds Tag against an answer.
func holdTag(t *testing.T, key [32]byte, text []byte, want [16]byte) {
	t.Helper()
	if got := Tag(key, text); got != want {
		t.Errorf("5.1: Tag(%x, %x): %x, not %x", key, text, got, want)
	}
}

// holdPlain holds Tag against the plain reckoning.
func holdPlain(t *testing.T, key [32]byte, text []byte) {
	t.Helper()
	holdTag(t, key, text, plainTag(key, text))
}
