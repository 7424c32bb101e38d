package aead

import (
	"bytes"
	"crypto/sha256"
	"encoding/hex"
	"testing"

	"porthole/api"
)

// known is the bytes of hex digits.
func known(t *testing.T, digits string) []byte {
	t.Helper()
	b, err := hex.DecodeString(digits)
	if err != nil {
		t.Fatalf("%q: %v", digits, err)
	}
	return b
}

// setting is all that a box is sealed with but its text.
type setting struct {
	key   [32]byte
	nonce [12]byte
	ad    []byte
}

// seal is the box of a text with that setting.
func (s setting) seal(text []byte) []byte {
	return Seal(s.key, s.nonce, s.ad, text)
}

// open is what a box of that setting is opened to.
func (s setting) open(box []byte) ([]byte, api.Errno) {
	return Open(s.key, s.nonce, s.ad, box)
}

// knownSetting is one of hex digits.
func knownSetting(t *testing.T, key, nonce, ad string) setting {
	t.Helper()
	return setting{[32]byte(known(t, key)), [12]byte(known(t, nonce)), known(t, ad)}
}

// holdBox holds both ways between a text and its box.
func holdBox(t *testing.T, s setting, text, box []byte) {
	t.Helper()
	if got := s.seal(text); !bytes.Equal(got, box) {
		t.Errorf("6.1: Seal(%x, %x, %x, %x): %x, not %x", s.key, s.nonce, s.ad, text, got, box)
	}
	if got, e := s.open(box); e != api.OK || !bytes.Equal(got, text) {
		t.Errorf("6.2: Open(%x, %x, %x, %x): %x %d, not %x", s.key, s.nonce, s.ad, box, got, e, text)
	}
}

const (
	sunscreen = "Ladies and Gentlemen of the class of '99: If I could offer you only one tip for the future, sunscreen would be it."
	drafts    = "Internet-Drafts are draft documents valid for a maximum of six months and may be updated, replaced, or obsoleted by other documents at any time. It is inappropriate to use Internet-Drafts as reference material or to cite them other than as /\u201cwork in progress./\u201d"
)

// TestKnownSunscreen: RFC 8439, 2.8.2.
func TestKnownSunscreen(t *testing.T) {
	s := knownSetting(t, "808182838485868788898a8b8c8d8e8f909192939495969798999a9b9c9d9e9f",
		"070000004041424344454647", "50515253c0c1c2c3c4c5c6c7")
	holdBox(t, s, []byte(sunscreen), known(t, "d31a8d34648e60db7b86afbc53ef7ec2a4aded51296e08fea9e2b5a736ee62d6"+
		"3dbea45e8ca9671282fafb69da92728b1a71de0a9e060b2905d6a5b67ecd3b36"+
		"92ddbd7f2d778b8c9803aee328091b58fab324e4fad675945585808b4831d7bc"+
		"3ff4def08e4b7a9de576d26586cec64b6116"+
		"1ae10b594f09e26a7e902ecbd0600691"))
	key := oneTimeKey(s.key, s.nonce)
	if !bytes.Equal(key[:], known(t, "7bac2b252db447af09b67a55a4e955840ae1d6731075d9eb2a9375783ed553ff")) {
		t.Errorf("6.1: the one-time key is %x", key)
	}
}

// TestKnownDrafts: RFC 8439, A.5.
func TestKnownDrafts(t *testing.T) {
	s := knownSetting(t, "1c9240a5eb55d38af333888604f6b5f0473917c1402b80099dca5cbc207075c0",
		"000000000102030405060708", "f33388860000000000004e91")
	if s.nonce != Nonce(0x0807060504030201) {
		t.Errorf("6.1: Nonce: %x", Nonce(0x0807060504030201))
	}
	holdBox(t, s, []byte(drafts), known(t, "64a0861575861af460f062c79be643bd5e805cfd345cf389f108670ac76c8cb2"+
		"4c6cfc18755d43eea09ee94e382d26b0bdb7b73c321b0100d4f03b7f355894cf"+
		"332f830e710b97ce98c8a84abd0b948114ad176e008d33bd60f982b1ff37c855"+
		"9797a06ef4f0ef61c186324e2b3506383606907b6a7c02b0f9f6157b53c867e4"+
		"b9166c767b804d46a59b5216cde7a4e99040c5a40433225ee282a1b0a06c523e"+
		"af4534d7f83fa1155b0047718cbc546a0d072b04b3564eea1b422273f548271a"+
		"0bb2316053fa76991955ebd63159434ecebb4e466dae5a1073a6727627097a10"+
		"49e617d91d361094fa68f0ff77987130305beaba2eda04df997b714d6c6f2c29"+
		"a6ad5cb4022b02709b"+
		"eead9d67890cbb22392336fea1851f38"))
}

// TestKnownOneTimeKeys: RFC 8439, 2.6.2 and its appendix A.4.
func TestKnownOneTimeKeys(t *testing.T) {
	for _, c := range []struct{ key, nonce, want string }{
		{"808182838485868788898a8b8c8d8e8f909192939495969798999a9b9c9d9e9f", "000000000001020304050607",
			"8ad5a08b905f81cc815040274ab29471a833b637e3fd0da508dbb8e2fdd1a646"},
		{"0000000000000000000000000000000000000000000000000000000000000000", "000000000000000000000000",
			"76b8e0ada0f13d90405d6ae55386bd28bdd219b8a08ded1aa836efcc8b770dc7"},
		{"0000000000000000000000000000000000000000000000000000000000000001", "000000000000000000000002",
			"ecfa254f845f647473d3cb140da9e87606cb33066c447b87bc2666dde3fbb739"},
		{"1c9240a5eb55d38af333888604f6b5f0473917c1402b80099dca5cbc207075c0", "000000000000000000000002",
			"965e3bc6f9ec7ed9560808f4d229f94b137ff275ca9b3fcbdd59deaad23310ae"},
	} {
		got := oneTimeKey([32]byte(known(t, c.key)), [12]byte(known(t, c.nonce)))
		if hex.EncodeToString(got[:]) != c.want {
			t.Errorf("6.1: the one-time key of %s, %s: %x, not %s", c.key, c.nonce, got, c.want)
		}
	}
}

// TestKnownSmall: OpenSSL's boxes of no text, and of one byte.
func TestKnownSmall(t *testing.T) {
	holdBox(t, setting{}, nil, known(t, "4eb972c9a8fb3a1b382bb4d36f5ffad1"))
	holdBox(t, setting{}, []byte{0}, known(t, "9fbedcfd1809ff3c10adf8277fcc0581b8"))
	holdBox(t, setting{ad: []byte{0}}, nil, known(t, "a62278e70d8adab9e6dc2a4e4a93f149"))
	for _, c := range []struct {
		n    uint64
		want string
	}{
		{0, "10324f800a160bd9a1794255be7ec29d"},
		{1, "a8d30d2553bfe08494e6aa8fd5b07296"},
		{1 << 32, "07c7ca2d404b906123d66d8b8ee8346a"},
		{1<<64 - 1, "781266469470e5bec60b4f4357c7cfa4"},
	} {
		holdBox(t, setting{key: risingKey(), nonce: Nonce(c.n)}, nil, known(t, c.want))
	}
}

// pattern is n bytes that repeat only after 256.
func pattern(n int) []byte {
	b := make([]byte, n)
	for i := range b {
		b[i] = byte(7*i + 3)
	}
	return b
}

// ones is n bytes of 1 in all bits.
func ones(n int) []byte {
	return bytes.Repeat([]byte{0xff}, n)
}

// oneBit is n bytes of 0 but for one bit.
func oneBit(i, n int) []byte {
	b := make([]byte, n)
	b[i/8] = 1 << (i % 8)
	return b
}

// risingKey is 00 01 02 .. 1f.
func risingKey() [32]byte {
	var key [32]byte
	for i := range key {
		key[i] = byte(i)
	}
	return key
}

// risingNonce is 40 41 .. 4b.
func risingNonce() [12]byte {
	var nonce [12]byte
	for i := range nonce {
		nonce[i] = byte(0x40 + i)
	}
	return nonce
}

// edgeLengths is the lengths at which a byte, a block of the tag or a block of
// the stream begins or ends.
func edgeLengths() []int {
	return []int{0, 1, 15, 16, 17, 63, 64, 65}
}

// TestKnownDigests: each digest is that of the boxes of OpenSSL's
// ChaCha20-Poly1305, one behind the other.
func TestKnownDigests(t *testing.T) {
	key, nonce := risingKey(), risingNonce()
	numbers := []uint64{0, 1, 255, 256, 1<<32 - 1, 1 << 32, 1<<32 + 1, 1 << 56, 1 << 63, 1<<64 - 1}
	edges := edgeLengths()
	for _, c := range []struct {
		name  string
		boxes int
		box   func(i int) []byte
		want  string
	}{
		{"ads and texts, each with each", len(edges) * len(edges),
			func(i int) []byte {
				return Seal(key, nonce, pattern(edges[i/len(edges)]), pattern(edges[i%len(edges)]))
			},
			"0ef560daa1e00b6c0829348c022f474eaa96c8dd11096f9a0a9074d24e2e806f"},
		{"texts of 0 to 299 bytes", 300, func(i int) []byte { return Seal(key, nonce, nil, pattern(i)) },
			"f4ab228a237be5261651751a00de5e1da8b3b219e1e84ab85d3eaf5dbecdb8a3"},
		{"ads of 0 to 299 bytes", 300, func(i int) []byte { return Seal(key, nonce, pattern(i), nil) },
			"64703777915122269c2e55ab4765e2d0a0bde33ec0b1622a7c3b5eface993e1e"},
		{"all 1", 300, func(i int) []byte { return Seal([32]byte(ones(32)), [12]byte(ones(12)), ones(i), ones(299-i)) },
			"4ce8415c4b7b6caf87d4a5c26f8c94389fd0782ef1e6e0b60bc09f663fb9783b"},
		{"nonces", len(numbers), func(i int) []byte { return Seal(key, Nonce(numbers[i]), pattern(5), pattern(70)) },
			"5f2f33b00a4fa2da1c3082fbdbb7c566de583105871595384d5d498a9e348359"},
		{"keys of one bit", 256, func(i int) []byte { return Seal([32]byte(oneBit(i, 32)), nonce, pattern(20), pattern(40)) },
			"34c11583be9c5936b1df223e00a2fe2744ffee5d6df9af9b00be979dbbd6ffa0"},
		{"nonces of one bit", 96, func(i int) []byte { return Seal(key, [12]byte(oneBit(i, 12)), pattern(20), pattern(40)) },
			"541e850ee7ba4b972bb044c74fa7785c76062ebba6aefdd471c13570785037b9"},
		{"a megabyte and one byte", 1, func(int) []byte { return Seal(key, nonce, pattern(70001), pattern(1<<20+1)) },
			"827a6dc4fe2fc060a749503299572becaac878eda005384f3851d1e69fa802ec"},
	} {
		var all []byte
		for i := range c.boxes {
			all = append(all, c.box(i)...)
		}
		if got := sha256.Sum256(all); hex.EncodeToString(got[:]) != c.want {
			t.Errorf("6.1: Seal: %s: the digest is %x, not %s", c.name, got, c.want)
		}
	}
}
