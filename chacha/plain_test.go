package chacha

import (
	"encoding/binary"
	"math/rand"
)

// Here ChaCha20 is reckoned once more, in another way: words are numbers of 64
// bits that are brought below 2^32 by division, a turn is a product, and the
// places of the quarters are a table. All tests that need to know an answer may
// hold it against that.

const wordEnd = 1 << 32

func plainTurned(x, n uint64) uint64 {
	p := x * (1 << n)
	return p%wordEnd + p/wordEnd
}

func plainQuarter(a, b, c, d uint64) (uint64, uint64, uint64, uint64) {
	for _, n := range [][2]uint64{{16, 12}, {8, 7}} {
		a = (a + b) % wordEnd
		d = plainTurned(d^a, n[0])
		c = (c + d) % wordEnd
		b = plainTurned(b^c, n[1])
	}
	return a, b, c, d
}

func plainStart(key [32]byte, count uint32, nonce [12]byte) []uint64 {
	text := append([]byte("expand 32-byte k"), key[:]...)
	text = binary.LittleEndian.AppendUint32(text, count)
	text = append(text, nonce[:]...)
	var w []uint64
	for ; len(text) > 0; text = text[4:] {
		w = append(w, uint64(binary.LittleEndian.Uint32(text)))
	}
	return w
}

func plainBlock(key [32]byte, count uint32, nonce [12]byte) [64]byte {
	w := plainStart(key, count, nonce)
	for range 10 {
		for _, p := range [][4]int{
			{0, 4, 8, 12}, {1, 5, 9, 13}, {2, 6, 10, 14}, {3, 7, 11, 15},
			{0, 5, 10, 15}, {1, 6, 11, 12}, {2, 7, 8, 13}, {3, 4, 9, 14},
		} {
			w[p[0]], w[p[1]], w[p[2]], w[p[3]] = plainQuarter(w[p[0]], w[p[1]], w[p[2]], w[p[3]])
		}
	}
	var out []byte
	for i, first := range plainStart(key, count, nonce) {
		out = binary.LittleEndian.AppendUint32(out, uint32((w[i]+first)%wordEnd))
	}
	return [64]byte(out)
}

// plainApply goes byte by byte, and makes the block of each anew.
func plainApply(key [32]byte, count uint32, nonce [12]byte, text []byte) []byte {
	var out []byte
	for i, x := range text {
		at := uint32((uint64(count) + uint64(i/64)) % wordEnd)
		block := plainBlock(key, at, nonce)
		out = append(out, x^block[i%64])
	}
	return out
}

// setting is what a block hangs on.
type setting struct {
	key   [32]byte
	count uint32
	nonce [12]byte
}

// fromBytes is a setting whose bytes, one behind the other, are b.
func fromBytes(b [48]byte) setting {
	return setting{[32]byte(b[:32]), binary.LittleEndian.Uint32(b[32:]), [12]byte(b[36:])}
}

// drawn is n settings, the same for the same seed.
func drawn(n int, seed int64) []setting {
	r := rand.New(rand.NewSource(seed))
	out := make([]setting, n)
	for i := range out {
		var b [48]byte
		r.Read(b[:])
		out[i] = fromBytes(b)
	}
	return out
}

// rising is RFC 8439's key: 00 01 02 .. 1f.
func rising() [32]byte {
	var key [32]byte
	for i := range key {
		key[i] = byte(i)
	}
	return key
}

// ones is a key and a nonce of all 1.
func ones() ([32]byte, [12]byte) {
	var key [32]byte
	var nonce [12]byte
	for i := range key {
		key[i] = 0xff
	}
	for i := range nonce {
		nonce[i] = 0xff
	}
	return key, nonce
}

// edges is every pairing of keys, counts and nonces at their edges.
func edges() []setting {
	onesKey, onesNonce := ones()
	var out []setting
	for _, key := range [][32]byte{{}, onesKey, rising(), {31: 1}, {0: 0x80}} {
		for _, count := range []uint32{0, 1, 2, 255, 256, 1<<31 - 1, 1 << 31, 1<<32 - 2, 1<<32 - 1} {
			for _, nonce := range [][12]byte{{}, onesNonce, {3: 9, 7: 0x4a}, {11: 1}, {0: 0x80}} {
				out = append(out, setting{key, count, nonce})
			}
		}
	}
	return out
}

// drawnText is n bytes, the same for the same seed.
func drawnText(n int, seed int64) []byte {
	b := make([]byte, n)
	rand.New(rand.NewSource(seed)).Read(b)
	return b
}
