package chacha

import (
	"crypto/sha256"
	"encoding/hex"
	"strings"
	"testing"
)

// known is the bytes of hex digits.
func known(t *testing.T, digits string) []byte {
	t.Helper()
	b, err := hex.DecodeString(strings.ReplaceAll(digits, " ", ""))
	if err != nil {
		t.Fatalf("%q: %v", digits, err)
	}
	return b
}

func blockOf(s setting) [64]byte {
	return Block(s.key, s.count, s.nonce)
}

// TestBlockKnown: RFC 8439, 2.3.2 and A.1, and answers of OpenSSL's ChaCha20.
func TestBlockKnown(t *testing.T) {
	onesKey, onesNonce := ones()
	for _, c := range []struct {
		name  string
		given setting
		want  string
	}{
		{"RFC 8439, 2.3.2", setting{rising(), 1, [12]byte{3: 9, 7: 0x4a}}, "10f1e7e4d13b5915500fdd1fa32071c4c7d1f4c733c068030422aa9ac3d46c4e d2826446079faa0914c2d705d98b02a2b5129cd1de164eb9cbd083e8a2503c4e"},
		{"RFC 8439, A.1, 1", setting{}, "76b8e0ada0f13d90405d6ae55386bd28bdd219b8a08ded1aa836efcc8b770dc7 da41597c5157488d7724e03fb8d84a376a43b8f41518a11cc387b669b2ee6586"},
		{"RFC 8439, A.1, 2", setting{count: 1}, "9f07e7be5551387a98ba977c732d080dcb0f29a048e3656912c6533e32ee7aed 29b721769ce64e43d57133b074d839d531ed1f28510afb45ace10a1f4b794d6f"},
		{"RFC 8439, A.1, 3", setting{[32]byte{31: 1}, 1, [12]byte{}}, "3aeb5224ecf849929b9d828db1ced4dd832025e8018b8160b82284f3c949aa5a 8eca00bbb4a73bdad192b5c42f73f2fd4e273644c8b36125a64addeb006c13a0"},
		{"RFC 8439, A.1, 4", setting{[32]byte{1: 0xff}, 2, [12]byte{}}, "72d54dfbf12ec44b362692df94137f328fea8da73990265ec1bbbea1ae9af0ca 13b25aa26cb4a648cb9b9d1be65b2c0924a66c54d545ec1b7374f4872e99f096"},
		{"RFC 8439, A.1, 5", setting{nonce: [12]byte{11: 2}}, "c2c64d378cd536374ae204b9ef933fcd1a8b2288b3dfa49672ab765b54ee27c7 8a970e0e955c14f3a88e741b97c286f75f8fc299e8148362fa198a39531bed6d"},
		{"the last count", setting{count: allOnes}, "ace4cd09e294d1912d4ad205d06f95d9c2f2bfcf453e8753f128765b62215f4d 92c74f2f626c6a640c0b1284d839ec81f1696281dafc3e684593937023b58b1d"},
		{"all 1, the first count", setting{onesKey, 0, onesNonce}, "d6e63495eafed7fc3bf8e7c419fa77be8234a6a49df517ebab06c8f65d9f7a17 d3a64d4b97c911e6995b65c79336220cb63b703e25d3d45f5fee90a37bbe0535"},
		{"all 1, the last count", setting{onesKey, allOnes, onesNonce}, "d72b21cfa4b6b0c41d61f62b8a11159c6a4f63bc56c2035796c7ad37811121bb ec56d54a530f3a933dd28a50feb23bfaf64f405be985f3718bdf4683e96be749"},
		{"2.4.2's nonce, the last count", setting{rising(), allOnes, [12]byte{7: 0x4a}}, "6d29da5bd16a472910e8c0bdb47edfc8499c3222cc168d3721747fc2b21266d9 f15c8339f10f354d16cc9b8e118eb182bf858ce5718fa4e76389ea4eb50a9475"},
	} {
		if got := blockOf(c.given); got != [64]byte(known(t, c.want)) {
			t.Errorf("4.1: Block, %s: %x, not %s", c.name, got, c.want)
		}
	}
}

func TestBlockAsReckonedPlainly(t *testing.T) {
	for _, s := range append(edges(), drawn(2000, 42)...) {
		if got, want := blockOf(s), plainBlock(s.key, s.count, s.nonce); got != want {
			t.Errorf("4.1: Block(%x, %d, %x): %x, not %x", s.key, s.count, s.nonce, got, want)
		}
	}
}

// Each bit of the key, the count and the nonce, alone: the digest is that of
// OpenSSL's 384 blocks, one behind the other.
func TestBlockOfEachBit(t *testing.T) {
	var all []byte
	seen := map[[64]byte]int{Block([32]byte{}, 0, [12]byte{}): -1}
	for i := range 8 * 48 {
		var b [48]byte
		b[i/8] = 1 << (i % 8)
		block := blockOf(fromBytes(b))
		if before, ok := seen[block]; ok {
			t.Errorf("4.1: Block does not tell bit %d from bit %d (-1: none)", i, before)
		}
		seen[block] = i
		all = append(all, block[:]...)
	}
	want := "7f503cb968a6caf3233f52882551a3e13b0280cfa54793796b936fc13ccb83cf"
	if got := sha256.Sum256(all); hex.EncodeToString(got[:]) != want {
		t.Errorf("4.1: Block of each bit alone: %x, not %s", got, want)
	}
}

// Each byte that is handed in turns all sixteen words of the answer.
func TestBlockSeesEachByte(t *testing.T) {
	for _, s := range drawn(20, 43) {
		before := blockOf(s)
		for i := range 48 {
			after := blockOf(withByteTurned(s, i))
			for w := 0; w < 64; w += 4 {
				if [4]byte(before[w:]) == [4]byte(after[w:]) {
					t.Errorf("4.1: Block(%x, %d, %x): byte %d is not seen in word %d", s.key, s.count, s.nonce, i, w/4)
				}
			}
		}
	}
}

// withByteTurned is s with another byte at i, of key, count and nonce.
func withByteTurned(s setting, i int) setting {
	switch {
	case i < 32:
		s.key[i] ^= 0x5a
	case i < 36:
		s.count ^= 0x5a << (8 * (i - 32))
	default:
		s.nonce[i-36] ^= 0x5a
	}
	return s
}

// A block hangs on what is handed in alone, whatever was asked between.
func TestBlockTheSameAgain(t *testing.T) {
	l := append(edges(), drawn(100, 44)...)
	var first [][64]byte
	for _, s := range l {
		first = append(first, blockOf(s))
	}
	for i := range l {
		at := len(l) - 1 - i
		if blockOf(l[at]) != first[at] {
			t.Errorf("R4: Block(%x, %d, %x) is another one later", l[at].key, l[at].count, l[at].nonce)
		}
	}
}
