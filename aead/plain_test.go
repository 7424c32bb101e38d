package aead

import (
	"bytes"
	"encoding/binary"
	"math/rand"
	"testing"

	"porthole/chacha"
	"porthole/poly"
)

// plainSeal is the chapter's sentence word by word, with the blocks of the tag
// laid out one by one.
func plainSeal(s setting, text []byte) []byte {
	first := chacha.Block(s.key, 0, s.nonce)
	box := bytes.Clone(text)
	for i := range box {
		block := chacha.Block(s.key, uint32(1+i/64), s.nonce)
		box[i] ^= block[i%64]
	}
	var tagged []byte
	for _, l := range [][]byte{s.ad, box} {
		for len(l) > 0 {
			var block [16]byte
			l = l[copy(block[:], l):]
			tagged = append(tagged, block[:]...)
		}
	}
	tagged = binary.LittleEndian.AppendUint64(tagged, uint64(len(s.ad)))
	tagged = binary.LittleEndian.AppendUint64(tagged, uint64(len(text)))
	tag := poly.Tag([32]byte(first[:]), tagged)
	return append(box, tag[:]...)
}

// holdPlain holds a box against the plain one, and opens it.
func holdPlain(t *testing.T, s setting, text []byte) {
	t.Helper()
	holdBox(t, s, text, plainSeal(s, text))
}

// drawnText is n bytes that hang on n and seed alone.
func drawnText(n int, seed int64) []byte {
	b := make([]byte, n)
	rand.New(rand.NewSource(seed)).Read(b)
	return b
}

// drawnSetting is one with an ad of n bytes.
func drawnSetting(n int, seed int64) setting {
	b := drawnText(32+12+n, seed)
	return setting{[32]byte(b), [12]byte(b[32:]), b[44:]}
}

func FuzzAsSealedPlainly(f *testing.F) {
	f.Add([]byte{}, []byte{}, []byte{}, []byte{})
	f.Add(pattern(32), pattern(12), pattern(17), pattern(65))
	f.Fuzz(func(t *testing.T, key, nonce, ad, text []byte) {
		s := setting{ad: ad}
		copy(s.key[:], key)
		copy(s.nonce[:], nonce)
		holdPlain(t, s, text)
		holdRefused(t, "with the text as its box", s, text)
	})
}
