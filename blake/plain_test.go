package blake

import (
	"bytes"
	"math/rand"
	"strconv"
	"strings"
	"testing"
)

// Here BLAKE2s is reckoned once more: the whole text at once, words as numbers
// that are brought below 2^32 by division, turns by products. All tests that
// need to know an answer may hold it against that.

const plainIV = "6a09e667 bb67ae85 3c6ef372 a54ff53a 510e527f 9b05688c 1f83d9ab 5be0cd19"

const plainSigma = `
 0  1  2  3  4  5  6  7  8  9 10 11 12 13 14 15
14 10  4  8  9 15 13  6  1 12  0  2 11  7  5  3
11  8 12  0  5  2 15 13 10 14  3  6  7  1  9  4
 7  9  3  1 13 12 11 14  2  6  5 10  4  0 15  8
 9  0  5  7  2  4 10 15 14  1 11 12  6  8  3 13
 2 12  6 10  0 11  8  3  4 13  7  5 15 14  1  9
12  5  1 15 14 13  4 10  0  7  6  3  9  2  8 11
13 11  7 14 12  1  3  9  5  0 15  4  8  6  2 10
 6 15 14  9 11  3  0  8 12  2 13  7  1  4 10  5
10  2  8  4  7  6  1  5 15 11  9 14  3 12 13  0
`

const plainLines = "0 4 8 12  1 5 9 13  2 6 10 14  3 7 11 15  0 5 10 15  1 6 11 12  2 7 8 13  3 4 9 14"

const wordEnd = 1 << 32

// numbers reads those of a text, to a base.
func numbers(text string, base int) []uint64 {
	var out []uint64
	for _, s := range strings.Fields(text) {
		n, err := strconv.ParseUint(s, base, 64)
		if err != nil {
			panic(err)
		}
		out = append(out, n)
	}
	return out
}

// plainTurn is x turned to the right by n bits.
func plainTurn(x, n uint64) uint64 {
	return x/(1<<n) + x%(1<<n)*(1<<(32-n))
}

// plainG turns four words of v, which stand where line says.
func plainG(v, line []uint64, x, y uint64) {
	a, b, c, d := &v[line[0]], &v[line[1]], &v[line[2]], &v[line[3]]
	*a = (*a + *b + x) % wordEnd
	*d = plainTurn(*d^*a, 16)
	*c = (*c + *d) % wordEnd
	*b = plainTurn(*b^*c, 12)
	*a = (*a + *b + y) % wordEnd
	*d = plainTurn(*d^*a, 8)
	*c = (*c + *d) % wordEnd
	*b = plainTurn(*b^*c, 7)
}

// plainPress is h with a block of 64 bytes pressed in.
func plainPress(h []uint64, block []byte, t uint64, last bool) []uint64 {
	v := append(append([]uint64{}, h...), numbers(plainIV, 16)...)
	v[12] ^= t % wordEnd
	v[13] ^= t / wordEnd
	if last {
		v[14] = wordEnd - 1 - v[14]
	}
	var m []uint64
	for i := 0; i < 64; i += 4 {
		m = append(m, uint64(block[i])+uint64(block[i+1])<<8+uint64(block[i+2])<<16+uint64(block[i+3])<<24)
	}
	lines, order := numbers(plainLines, 10), numbers(plainSigma, 10)
	for ; len(order) > 0; order = order[16:] {
		for i := range 8 {
			plainG(v, lines[4*i:], m[order[2*i]], m[order[2*i+1]])
		}
	}
	out := make([]uint64, 8)
	for i := range out {
		out[i] = h[i] ^ v[i] ^ v[i+8]
	}
	return out
}

// plainFirst is h ahead of the first block.
func plainFirst() []uint64 {
	h := numbers(plainIV, 16)
	h[0] ^= 0x01010020
	return h
}

// plainBytes is the sum that a last h makes.
func plainBytes(h []uint64) [32]byte {
	var out [32]byte
	for i := range out {
		out[i] = byte(h[i/4] >> (8 * (i % 4)))
	}
	return out
}

// plainSum is that of the whole text.
func plainSum(text []byte) [32]byte {
	blocks := max(1, (len(text)+63)/64)
	filled := make([]byte, 64*blocks)
	copy(filled, text)
	h := plainFirst()
	for i := 1; i <= blocks; i++ {
		h = plainPress(h, filled[64*(i-1):64*i], uint64(min(64*i, len(text))), i == blocks)
	}
	return plainBytes(h)
}

// edgeLengths is those about the ends of blocks.
func edgeLengths() []int {
	return []int{0, 1, 2, 3, 31, 32, 33, 62, 63, 64, 65, 66, 126, 127, 128, 129, 130, 191, 192, 193, 256, 257, 300}
}

// drawnText is n bytes, the same for the same seed.
func drawnText(n int, seed int64) []byte {
	b := make([]byte, n)
	rand.New(rand.NewSource(seed)).Read(b)
	return b
}

// pattern is n bytes that repeat only after 256.
func pattern(n int) []byte {
	b := make([]byte, n)
	for i := range b {
		b[i] = byte(7*i + 3)
	}
	return b
}

// ones is n bytes of all 1.
func ones(n int) []byte {
	return bytes.Repeat([]byte{0xff}, n)
}

// oneBit is n bytes of 0 but for one bit.
func oneBit(i, n int) []byte {
	b := make([]byte, n)
	b[i/8] = 1 << (i % 8)
	return b
}

// holdSum holds what Sum answered of a text against an answer.
func holdSum(t *testing.T, name string, got, want [32]byte) {
	t.Helper()
	if got != want {
		t.Errorf("%s: %x, not %x", name, got, want)
	}
}
