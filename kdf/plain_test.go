package kdf

import (
	"bytes"
	"crypto/hmac"
	"hash"
	"math/rand"
	"testing"

	"porthole/blake"
)

// Here Hmac and Derive are reckoned once more, by the library's HMAC over
// blake. All tests that need to know an answer may hold it against that.

// lentHash is blake as the library asks for a hash.
type lentHash struct{ *blake.Hash }

func newLentHash() hash.Hash { return &lentHash{blake.New()} }

func (h *lentHash) Write(b []byte) (int, error) {
	h.Hash.Write(b)
	return len(b), nil
}

func (h *lentHash) Sum(b []byte) []byte {
	sum := h.Hash.Sum()
	return append(b, sum[:]...)
}

func (h *lentHash) Reset()         { h.Hash = blake.New() }
func (h *lentHash) Size() int      { return 32 }
func (h *lentHash) BlockSize() int { return 64 }

// plainHmac is that of a text in pieces.
func plainHmac(key []byte, pieces ...[]byte) [32]byte {
	h := hmac.New(newLentHash, key)
	for _, b := range pieces {
		h.Write(b)
	}
	return [32]byte(h.Sum(nil))
}

// plainDerive is the sentence of 8.1, word by word.
func plainDerive(chain [32]byte, input []byte, n int) [][32]byte {
	temp := plainHmac(chain[:], input)
	first := plainHmac(temp[:], []byte{1})
	second := plainHmac(temp[:], first[:], []byte{2})
	third := plainHmac(temp[:], second[:], []byte{3})
	return [][32]byte{first, second, third}[:n]
}

// edgeLengths is those about the ends of sums and of blocks.
func edgeLengths() []int {
	return []int{0, 1, 2, 31, 32, 33, 62, 63, 64, 65, 66, 127, 128, 129, 200, 257}
}

// drawnText is n bytes, the same for the same seed.
func drawnText(n int, seed int64) []byte {
	b := make([]byte, n)
	rand.New(rand.NewSource(seed)).Read(b)
	return b
}

// drawnChain is a chain key, the same for the same seed.
func drawnChain(seed int64) [32]byte {
	return [32]byte(drawnText(32, seed))
}

// keyPattern is n bytes that repeat only after 256.
func keyPattern(n int) []byte {
	b := make([]byte, n)
	for i := range b {
		b[i] = byte(5*i + 1)
	}
	return b
}

// textPattern is n other ones.
func textPattern(n int) []byte {
	b := make([]byte, n)
	for i := range b {
		b[i] = byte(7*i + 3)
	}
	return b
}

// oneBit is n bytes of 0 but for one bit.
func oneBit(i, n int) []byte {
	b := make([]byte, n)
	b[i/8] = 1 << (i % 8)
	return b
}

// joined is lists one behind the other, in memory that has no room left.
func joined(l ...[]byte) []byte {
	return bytes.Join(l, nil)
}

// holdSum holds what Hmac answered against an answer.
func holdSum(t *testing.T, name string, got, want [32]byte) {
	t.Helper()
	if got != want {
		t.Errorf("%s: %x, not %x", name, got, want)
	}
}

// holdKeys holds what Derive answered against an answer.
func holdKeys(t *testing.T, name string, got, want [][32]byte) {
	t.Helper()
	if len(got) != len(want) {
		t.Errorf("%s: %d keys, not %d: %x", name, len(got), len(want), got)
		return
	}
	for i := range want {
		if got[i] != want[i] {
			t.Errorf("%s: key %d of %d is %x, not %x", name, i+1, len(want), got[i], want[i])
		}
	}
}
