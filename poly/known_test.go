package poly

import (
	"crypto/sha256"
	"encoding/hex"
	"strings"
	"testing"
)

// known is the bytes of hex digits.
func known(t *testing.T, digits string) []byte {
	t.Helper()
	b, err := hex.DecodeString(digits)
	if err != nil {
		t.Fatalf("%q: %v", digits, err)
	}
	return b
}

// knownKey is the key of hex digits, those of r and those of s, with 0 for
// all that is not told of either.
func knownKey(t *testing.T, r, s string) [32]byte {
	t.Helper()
	var key [32]byte
	copy(key[:16], known(t, r))
	copy(key[16:], known(t, s))
	return key
}

// knownTag is the tag of hex digits, with 0 for all that is not told.
func knownTag(t *testing.T, digits string) [16]byte {
	t.Helper()
	var tag [16]byte
	copy(tag[:], known(t, digits))
	return tag
}

const (
	allF = "ffffffffffffffffffffffffffffffff"
	all0 = "00000000000000000000000000000000"

	contribution = `Any submission to the IETF intended by the Contributor for publication as all or part of an IETF Internet-Draft or RFC and any statement made within the context of an IETF activity is considered an "IETF Contribution". Such statements include oral statements in IETF sessions, as well as written and electronic communications made at any time or place, which are addressed to`

	jabberwocky = "'Twas brillig, and the slithy toves\nDid gyre and gimble in the wabe:\nAll mimsy were the borogoves,\nAnd the mome raths outgrabe."
)

// TestKnownTexts: RFC 8439, 2.5.2 and the first four of A.3.
func TestKnownTexts(t *testing.T) {
	for _, c := range []struct{ r, s, text, tag string }{
		{"85d6be7857556d337f4452fe42d506a8", "0103808afb0db2fd4abff6af4149f51b", "Cryptographic Forum Research Group", "a8061dc1305136c6c22b8baf0c0127a9"},
		{"", "", strings.Repeat("\x00", 64), ""},
		{"", "36e5f6b5c5e06070f0efca96227a863e", contribution, "36e5f6b5c5e06070f0efca96227a863e"},
		{"36e5f6b5c5e06070f0efca96227a863e", "", contribution, "f3477e7cd95417af89a6b8794c310cf0"},
		{"1c9240a5eb55d38af333888604f6b5f0", "473917c1402b80099dca5cbc207075c0", jabberwocky, "4541669a7eaaee61e708dc7cbcc5eb62"},
	} {
		holdTag(t, knownKey(t, c.r, c.s), []byte(c.text), knownTag(t, c.tag))
	}
}

// TestKnownNumbers: RFC 8439, A.3, the other seven: where one who reduces
// wrongly is found out.
func TestKnownNumbers(t *testing.T) {
	two := "0100000000000000" + "0400000000000000"
	long := "e33594d7505e43b90000000000000000" + "3394d7505e4379cd0100000000000000" + all0
	for _, c := range []struct{ r, s, text, tag string }{
		{"02", "", allF, "03"},
		{"02", allF, "02" + all0[2:], "03"},
		{"01", "", allF + "f0" + allF[2:] + "11" + all0[2:], "05"},
		{"01", "", allF + "fbfefefefefefefefefefefefefefefe" + "01010101010101010101010101010101", ""},
		{"02", "", "fd" + allF[2:], "fa" + allF[2:]},
		{two, "", long + "01" + all0[2:], "14000000000000005500000000000000"},
		{two, "", long, "13"},
	} {
		holdTag(t, knownKey(t, c.r, c.s), known(t, c.text), knownTag(t, c.tag))
	}
}

// TestKnownOnes: OpenSSL's Poly1305, of a key of all 1.
func TestKnownOnes(t *testing.T) {
	key := [32]byte(ones(32))
	for _, c := range []struct {
		text []byte
		tag  string
	}{
		{make([]byte, 1), "0effffff0ffcffff0ffcffff0ffcffff"},
		{make([]byte, 16), "faffff13fbffff13fbffff13fbffff13"},
		{ones(1), "23feffef23f8ffef23f8ffef23f8ffef"},
		{ones(16), "fbffff17faffff17faffff17faffff17"},
		{ones(48), "5efc6a6b51fcec4c787c5075997c95e4"},
	} {
		holdTag(t, key, c.text, knownTag(t, c.tag))
	}
}

// TestKnownMegabyte: OpenSSL's Poly1305, of a megabyte and one byte.
func TestKnownMegabyte(t *testing.T) {
	const n = 1<<20 + 1
	if got := Tag([32]byte(ones(32)), ones(n)); got != knownTag(t, "c4d0a72975fa81b460b9d6acde1b81b0") {
		t.Errorf("5.1: a megabyte of 1: %x", got)
	}
	if got := Tag(rising(), make([]byte, n)); got != knownTag(t, "c6f701180a6f937c483a38960cf55685") {
		t.Errorf("5.1: a megabyte of 0: %x", got)
	}
}

// oneBit is n bytes of 0 but for one bit.
func oneBit(i, n int) []byte {
	b := make([]byte, n)
	b[i/8] = 1 << (i % 8)
	return b
}

// pattern is n bytes that repeat only after 256.
func pattern(n int) []byte {
	b := make([]byte, n)
	for i := range b {
		b[i] = byte(7*i + 3)
	}
	return b
}

// TestKnownDigests: each digest is that of the tags of OpenSSL's Poly1305, one
// behind the other.
func TestKnownDigests(t *testing.T) {
	for _, c := range []struct {
		name string
		tags int
		tag  func(i int) [16]byte
		want string
	}{
		{"texts of 0 to 299 bytes", 300, func(i int) [16]byte { return Tag(rising(), pattern(i)) },
			"bea3d4460bf051e01788b71e16cdd48969331d0ca4431a63adfcb68819c12750"},
		{"texts of 0 to 299 bytes, all 1", 300, func(i int) [16]byte { return Tag([32]byte(ones(32)), ones(i)) },
			"4e3215edb2c9ae02241a0f23c22a231d3ec687a94cfa39ca92a083b30a2b4fdf"},
		{"keys of one bit", 256, func(i int) [16]byte { return Tag([32]byte(oneBit(i, 32)), pattern(40)) },
			"3161e6cf7f018cf877ca0cc0e8755bee131c3e2d24140025e6e3e941ce5993f9"},
		{"texts of one bit", 8 * 37, func(i int) [16]byte { return Tag(rising(), oneBit(i, 37)) },
			"874e5110d8ca756b00bb3ea9210fe6afe7fb4e43e5da786e99504d530cca8cc7"},
	} {
		var all []byte
		for i := range c.tags {
			tag := c.tag(i)
			all = append(all, tag[:]...)
		}
		if got := sha256.Sum256(all); hex.EncodeToString(got[:]) != c.want {
			t.Errorf("5.1: %s: the digest is %x, not %s", c.name, got, c.want)
		}
	}
}
