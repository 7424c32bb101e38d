package kdf

import (
	"bytes"
	"fmt"
	"sync"
	"testing"

	"porthole/blake"
)

// padded is a block of a key that fits in one, each byte of it xor pad.
func padded(key []byte, pad byte) []byte {
	block := bytes.Repeat([]byte{pad}, 64)
	for i := range key {
		block[i] ^= key[i]
	}
	return block
}

// Keys of each length that fits in a block: the key with 0 behind it up to 64,
// xor 36 ahead of the text, xor 5c ahead of the sum of both.
func TestHmacIsTwoSums(t *testing.T) {
	for n := range 65 {
		for _, m := range edgeLengths() {
			key, text := drawnText(n, int64(n)), drawnText(m, int64(1000+m))
			inner := blake.Sum(padded(key, 0x36), text)
			want := blake.Sum(padded(key, 0x5c), inner[:])
			holdSum(t, fmt.Sprintf("8.1: Hmac of %d and %d bytes", n, m), Hmac(key, text), want)
		}
	}
}

func TestHmacOfEachLength(t *testing.T) {
	for n := range 200 {
		for _, m := range edgeLengths() {
			for _, c := range [][2]int{{n, m}, {m, n}} {
				key, text := drawnText(c[0], int64(n)), drawnText(c[1], int64(1000+m))
				holdSum(t, fmt.Sprintf("8.1: Hmac of %d and %d bytes", c[0], c[1]), Hmac(key, text), plainHmac(key, text))
			}
		}
	}
}

// A key that is longer than a block counts as its Sum; one of a block, or
// less, does not.
func TestLongKeysCountAsTheirSum(t *testing.T) {
	for _, m := range edgeLengths() {
		text := drawnText(m, int64(m))
		for _, n := range []int{65, 66, 96, 127, 128, 129, 200, 1 << 20} {
			key := drawnText(n, int64(n))
			sum := blake.Sum(key)
			holdSum(t, fmt.Sprintf("8.1: a key of %d bytes, as its Sum", n), Hmac(key, text), Hmac(sum[:], text))
		}
		for n := range 65 {
			key := drawnText(n, int64(n))
			sum := blake.Sum(key)
			if Hmac(key, text) == Hmac(sum[:], text) {
				t.Errorf("8.1: a key of %d bytes is as its Sum", n)
			}
		}
	}
}

// Of a key that is longer than a block every byte is seen, not the first ones
// alone.
func TestAllOfALongKeyIsSeen(t *testing.T) {
	for _, n := range []int{65, 128, 200, 1 << 20} {
		key, text := drawnText(n, int64(n)), drawnText(10, 5)
		want := Hmac(key, text)
		for _, at := range []int{0, 31, 32, 63, 64, n - 1} {
			key[at] ^= 1
			if Hmac(key, text) == want {
				t.Errorf("8.1: byte %d of a key of %d is not seen", at, n)
			}
			key[at] ^= 1
		}
		if Hmac(key[:64], text) == want {
			t.Errorf("8.1: a key of %d bytes is as its first 64", n)
		}
		if Hmac(key[:n-1], text) == want {
			t.Errorf("8.1: a key of %d bytes is as one less", n)
		}
	}
}

// Bytes of 0 behind a key, up to 64, turn nothing; with one more the key
// counts as its Sum.
func TestZerosBehindAKey(t *testing.T) {
	for n := range 65 {
		key, text := drawnText(n, int64(n)), drawnText(70, 6)
		filled := append(bytes.Clone(key), make([]byte, 65-n)...)
		want := Hmac(key, text)
		for end := n; end <= 64; end++ {
			holdSum(t, fmt.Sprintf("8.1: a key of %d bytes, and 0 up to %d", n, end), Hmac(filled[:end], text), want)
		}
		if Hmac(filled, text) == want {
			t.Errorf("8.1: a key of %d bytes, and 0 up to 65, is as without them", n)
		}
	}
}

// A byte of 0 ahead of a key, and one ahead of a text or behind it, makes
// another one.
func TestOtherZerosAreTold(t *testing.T) {
	zero := []byte{0}
	for _, n := range []int{1, 32, 63, 64, 65, 200} {
		key, text := drawnText(n, int64(n)), drawnText(n, int64(n+1))
		want := Hmac(key, text)
		for name, got := range map[string][32]byte{
			"0 ahead of the key":  Hmac(joined(zero, key), text),
			"0 ahead of the text": Hmac(key, joined(zero, text)),
			"0 behind the text":   Hmac(key, joined(text, zero)),
			"the two in turn":     Hmac(text, key),
			"a byte at the other": Hmac(key[:n-1], joined(key[n-1:], text)),
			"no text":             Hmac(key, nil),
			"no key":              Hmac(nil, text),
			"the Sum of the two":  blake.Sum(key, text),
			"the Sum as the text": Hmac(key, sumOf(text)),
		} {
			if got == want {
				t.Errorf("8.1: %d bytes each: %s: the same", n, name)
			}
		}
	}
}

func sumOf(b []byte) []byte {
	sum := blake.Sum(b)
	return sum[:]
}

// nil, an empty list and one with room behind it are the same.
func TestHmacOfNoBytes(t *testing.T) {
	nothing := [][]byte{nil, {}, make([]byte, 0, 64), lent(nil)}
	for i, key := range nothing {
		for k, text := range nothing {
			holdSum(t, fmt.Sprintf("8.1: Hmac of no bytes, told in ways %d and %d", i, k), Hmac(key, text), plainHmac(nil))
		}
	}
	for _, n := range edgeLengths() {
		b := drawnText(n, int64(n))
		for i, none := range nothing {
			holdSum(t, fmt.Sprintf("8.1: Hmac of %d bytes and no text, told in way %d", n, i), Hmac(b, none), plainHmac(b))
			holdSum(t, fmt.Sprintf("8.1: Hmac of no key, told in way %d, and %d bytes", i, n), Hmac(none, b), plainHmac(nil, b))
		}
	}
}

// A megabyte as the key, as the text, as both.
func TestHmacOfAMegabyte(t *testing.T) {
	big := drawnText(1<<20, 7)
	for _, n := range edgeLengths() {
		b := drawnText(n, int64(n))
		holdSum(t, fmt.Sprintf("8.1: Hmac of a megabyte and %d bytes", n), Hmac(big, b), plainHmac(big, b))
		holdSum(t, fmt.Sprintf("8.1: Hmac of %d bytes and a megabyte", n), Hmac(b, big), plainHmac(b, big))
	}
	holdSum(t, "8.1: Hmac of a megabyte twice", Hmac(big, big), plainHmac(big, big))
}

// Each bit of a key and of a text is seen.
func TestEachBitIsSeen(t *testing.T) {
	for _, n := range []int{1, 32, 63, 64, 65, 130} {
		key, text := drawnText(n, int64(n)), drawnText(n, int64(n+1))
		seen := map[[32]byte]bool{Hmac(key, text): true}
		for _, b := range [][]byte{key, text} {
			for i := range 8 * n {
				b[i/8] ^= 1 << (i % 8)
				seen[Hmac(key, text)] = true
				b[i/8] ^= 1 << (i % 8)
			}
		}
		if len(seen) != 16*n+1 {
			t.Errorf("8.1: %d keys and texts that are unlike by a bit have %d answers", 16*n+1, len(seen))
		}
	}
}

// An answer hangs on what is handed in alone, whatever was asked between, and
// beside it.
func TestHmacTheSameAgain(t *testing.T) {
	const n = 300
	ask := func(i int) [32]byte { return Hmac(keyPattern(i), textPattern(n-i)) }
	var first, again [n][32]byte
	for i := range n {
		first[i] = ask(i)
	}
	var all sync.WaitGroup
	for i := range n {
		all.Go(func() {
			Derive(drawnChain(int64(i)), keyPattern(i), 2+i%2)
			again[n-1-i] = ask(n - 1 - i)
		})
	}
	all.Wait()
	for i := range n {
		holdSum(t, fmt.Sprintf("R4: Hmac of %d and %d bytes, later", i, n-i), again[i], first[i])
	}
}
