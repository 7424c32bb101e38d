package poly

import (
	"bytes"
	"math/big"
	"sync"
	"testing"
)

// edgeKeys is every pairing of an r and an s at their edges, 0 among them.
func edgeKeys() [][32]byte {
	var out [][32]byte
	for _, r := range append(edgeRs(), new(big.Int), plus(power(128), -1)) {
		for _, s := range edgeSs() {
			out = append(out, keyOf(r, s))
		}
	}
	return out
}

// notKept is all bits of r that are not kept.
func notKept() *big.Int {
	return new(big.Int).Xor(plus(power(128), -1), keptBits())
}

// The chapter's example: of no text the tag is s, whatever r is.
func TestOfNoText(t *testing.T) {
	for _, key := range append(edgeKeys(), drawnKeys(50, 62)...) {
		for _, text := range [][]byte{nil, {}, lent(nil)} {
			holdTag(t, key, text, [16]byte(key[16:]))
		}
	}
}

// With an r of 0 nothing of the text is seen; so it is with an r that has but
// bits that are not kept.
func TestRZero(t *testing.T) {
	for _, s := range edgeSs() {
		for _, r := range []*big.Int{new(big.Int), notKept()} {
			for n := range 70 {
				holdTag(t, keyOf(r, s), drawnText(n, int64(n)), half(s))
				holdTag(t, keyOf(r, s), ones(n), half(s))
			}
		}
	}
}

// With an r of 1 and an s of 0 the tag is the sum of the blocks, each with its
// byte 1 behind it.
func TestROne(t *testing.T) {
	one := [32]byte{1}
	for n := 1; n < 16; n++ {
		var want [16]byte
		want[n] = 1
		holdTag(t, one, make([]byte, n), want)
		text := drawnText(n, int64(n))
		copy(want[:], text)
		holdTag(t, one, text, want)
	}
	// Behind a whole block the byte 1 is 2^128: in the tag it is seen only
	// once four of them make 5.
	holdTag(t, one, make([]byte, 16), [16]byte{})
	holdTag(t, one, make([]byte, 17), [16]byte{0, 1})
	holdTag(t, one, make([]byte, 32), [16]byte{})
	holdTag(t, one, make([]byte, 48), [16]byte{})
	holdTag(t, one, make([]byte, 64), [16]byte{5})
	holdTag(t, one, make([]byte, 65), [16]byte{5, 1})
	holdTag(t, one, make([]byte, 128), [16]byte{10})
	text := drawnText(16, 63)
	holdTag(t, one, text, [16]byte(text))
}

// Each bit of r alone: one that is kept is seen in the tag, one that is not is
// not, whether it is set or not.
func TestWhichBitsOfRCount(t *testing.T) {
	kept := keptBits()
	for _, key := range append(drawnKeys(10, 64), [32]byte{}, [32]byte(ones(32))) {
		text := drawnText(53, 65)
		before := Tag(key, text)
		for i := range 128 {
			other := key
			other[i/8] ^= 1 << (i % 8)
			if seen, want := Tag(other, text) != before, kept.Bit(i) == 1; seen != want {
				t.Errorf("5.1: Tag(%x, %x): bit %d of r is seen: %v, not %v", key, text, i, seen, want)
			}
		}
	}
}

// An r with all bits that are not kept, and the same r without them.
func TestBitsOfRNotKept(t *testing.T) {
	for _, r := range append(edgeRs(), new(big.Int)) {
		for _, s := range edgeSs() {
			for _, n := range []int{0, 1, 15, 16, 17, 33, 100} {
				text := drawnText(n, int64(n))
				with := keyOf(new(big.Int).Or(r, notKept()), s)
				holdTag(t, with, text, Tag(keyOf(r, s), text))
				holdPlain(t, with, text)
			}
		}
	}
}

// Each byte of r of which something is kept (all of them), of s, and of the
// text.
func TestEachByteIsSeen(t *testing.T) {
	for i, key := range drawnKeys(20, 66) {
		text := drawnText(65+i, int64(i))
		before := Tag(key, text)
		for at := range key {
			other := key
			// Bits 2 and 3 of each byte are kept.
			other[at] ^= 0x0c
			if Tag(other, text) == before {
				t.Errorf("5.1: Tag(%x, %x): byte %d of the key is not seen", key, text, at)
			}
			holdPlain(t, other, text)
		}
		for at := range text {
			other := bytes.Clone(text)
			other[at] ^= 0x01
			if Tag(key, other) == before {
				t.Errorf("5.1: Tag(%x, %x): byte %d of the text is not seen", key, text, at)
			}
			holdPlain(t, key, other)
		}
	}
}

// s is added: each bit of it is that power of 2 more or less in the tag.
func TestEachBitOfSIsAdded(t *testing.T) {
	for i, key := range append(drawnKeys(10, 67), edgeKeys()...) {
		text := drawnText(i%40, int64(i))
		before := Tag(key, text)
		for at := range uint(128) {
			other := key
			other[16+at/8] ^= 1 << (at % 8)
			change := power(at)
			if key[16+at/8]>>(at%8)&1 == 1 {
				change.Neg(change)
			}
			holdTag(t, other, text, half(change.Add(change, number(before[:]))))
		}
	}
}

// Texts that a tag without the byte 1 behind each block would take for one
// another, and blocks that stand elsewhere.
func TestTextsAreToldApart(t *testing.T) {
	for _, key := range drawnKeys(10, 68) {
		seen := map[[16]byte]int{}
		for n := range 100 {
			tag := Tag(key, make([]byte, n))
			if before, ok := seen[tag]; ok {
				t.Errorf("5.1: Tag(%x): %d bytes of 0 are as %d of them", key, n, before)
			}
			seen[tag] = n
		}
		text := drawnText(48, 69)
		turned := append(append(bytes.Clone(text[16:32]), text[:16]...), text[32:]...)
		if Tag(key, text) == Tag(key, turned) {
			t.Errorf("5.1: Tag(%x, %x): two blocks may change places", key, text)
		}
	}
}

// Every length of up to several blocks, and so every length of a last part.
func TestEachLength(t *testing.T) {
	keys := append(edgeKeys(), drawnKeys(20, 70)...)
	for n := range 130 {
		for i, key := range keys {
			holdPlain(t, key, drawnText(n, int64(n*len(keys)+i)))
		}
	}
}

// Texts of all 0 and of all 1, where every carry is the least and the greatest.
func TestTextsOfOneByte(t *testing.T) {
	for _, key := range append(edgeKeys(), drawnKeys(20, 71)...) {
		for _, n := range []int{1, 2, 14, 15, 16, 17, 18, 31, 32, 33, 47, 48, 49, 64, 160, 161, 1000} {
			holdPlain(t, key, make([]byte, n))
			holdPlain(t, key, ones(n))
			holdPlain(t, key, bytes.Repeat([]byte{0x80}, n))
		}
	}
}

func TestAsReckonedPlainly(t *testing.T) {
	for i, key := range drawnKeys(5000, 72) {
		holdPlain(t, key, drawnText(i%200, int64(i)))
	}
}

// A tag hangs on what is handed in alone, whatever was asked between, and
// beside it.
func TestTheSameAgain(t *testing.T) {
	keys := append(edgeKeys(), drawnKeys(50, 73)...)
	text := drawnText(1000, 74)
	first := make([][16]byte, len(keys))
	for i, key := range keys {
		first[i] = Tag(key, text)
	}
	again := make([][16]byte, len(keys))
	var all sync.WaitGroup
	for i := range keys {
		all.Go(func() { again[i] = Tag(keys[len(keys)-1-i], text) })
	}
	all.Wait()
	for i := range keys {
		if again[i] != first[len(keys)-1-i] {
			t.Errorf("R4: Tag(%x, ..) is another one later", keys[len(keys)-1-i])
		}
	}
}

const spare = 0xa5

// lent is text with spare room behind it that holds known bytes.
func lent(text []byte) []byte {
	b := append(bytes.Clone(text), bytes.Repeat([]byte{spare}, 40)...)
	return b[:len(text)]
}

// The text and the room behind it stay as they were; and what lies in that
// room is not seen.
func TestTheTextIsNotTurned(t *testing.T) {
	for i, key := range append(edgeKeys(), drawnKeys(20, 75)...) {
		for n := range 50 {
			text := drawnText(n, int64(i))
			given := lent(text)
			holdTag(t, key, given, Tag(key, text))
			if !bytes.Equal(given[:n+40], append(bytes.Clone(text), bytes.Repeat([]byte{spare}, 40)...)) {
				t.Errorf("R2: Tag of %d bytes has turned the text, or the room behind it", n)
			}
		}
	}
}
